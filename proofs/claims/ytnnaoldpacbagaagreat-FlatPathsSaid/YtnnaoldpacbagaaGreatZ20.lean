/- 'New'. A branch that the call made: what each of its functions makes of it. What is renamed is what it was, under its new name; back again all is as it had been. Two names of one file tell one file. What is held stays whole, and goes with its last hold. -/
import Derived.Test.YtnnaoldpacbagaaGreatZ19
section
namespace Go.Proofs.YtnnaoldpacbagaaGreat.cb
open Go.RowKit
open Go.Proofs.YtnnaoldpacbagaaGreat.qu (KN ins QL)
open Go.Proofs.YtnnaoldpacbagaaGreat.dn (Du En lget lset ldel getV nerr dotB Sorted RetV serr lsetE)
open Go.Proofs.YtnnaoldpacbagaaGreat.bl (AB Bod BodC StoC Only Pq cut cutR wr WR)
open Go.Proofs.YtnnaoldpacbagaaGreat.br
set_option linter.unusedVariables false
set_option linter.unusedSimpArgs false

set_option maxRecDepth 100000 in
theorem new_no (room : Int) (w : World) (hr : room < 0 ∨ 65536 < room) : Calls Tryz.prog 27 #[.int .i64 room] w (fun e w' => e = .returned (.pointer none) ∧ w' = w) := by
  have HN := Lib.hid (bl.new_no room w hr)
  go_enter Tryz.func27, Tryz.ntmps27
  go_wp2_with fail
  refine HN.out.mono ?_
  rintro e w2 ⟨rfl, rfl⟩
  go_wp2_with fail
  go_ret
  exact ⟨rfl, rfl⟩
theorem zero203 : Tryz.zeroCells119 = (List.replicate 203 (Value.pointer none)).toArray := by kernel_rfl
theorem boxB_cell (w : World) (st qb j : Nat) {ob : Obj} (hob : ob = .cells ((Tryz.zeroCells119.setIfInBounds 0 (Pq st)).setIfInBounds 202 (Pq qb)) 119) (hj : j < 203) : (w.alloc ob).cell? ⟨w.heap.size, j, none⟩ = some (if j = 0 then Pq st else if j = 202 then Pq qb else .pointer none) := by
  subst hob
  have e : ((Tryz.zeroCells119.setIfInBounds 0 (Pq st)).setIfInBounds 202 (Pq qb))[j]? = some (if j = 0 then Pq st else if j = 202 then Pq qb else .pointer none) := by
    rw [zero203]
    generalize hr : (List.replicate 203 (Value.pointer none)).toArray = Z
    have hz : Z.size = 203 := by rw [← hr, List.size_toArray, List.length_replicate]
    have hg : Z[j]? = some (.pointer none) := by rw [← hr, List.getElem?_toArray, List.getElem?_replicate, if_pos hj]
    simp only [Array.getElem?_setIfInBounds, Array.size_setIfInBounds, hz]
    by_cases h0 : j = 0
    · subst h0; simp
    · by_cases h2 : j = 202
      · subst h2; simp
      · rw [if_neg (fun e => h2 e.symm), if_neg (fun e => h0 e.symm), if_neg h0, if_neg h2, hg]
  generalize ((Tryz.zeroCells119.setIfInBounds 0 (Pq st)).setIfInBounds 202 (Pq qb)) = Z at *
  simp [e]
def nilB : BS := ⟨fun _ => Ino.nil, 0⟩
/-- A branch without inodes. -/
theorem CB.start {w3 : World} {st qb lo room : Nat} {ob : Obj} (hob : ob = .cells ((Tryz.zeroCells119.setIfInBounds 0 (Pq st)).setIfInBounds 202 (Pq qb)) 119) (hs : StoC w3 st room 0) (hq : QL w3 qb lo none [] 0) (h1 : lo ≤ st) (h2 : lo ≤ qb) (h3 : st ≠ qb) (h4 : st < w3.heap.size) (pl : Nat → Pl) :
    CB (w3.alloc ob) w3.heap.size lo st qb none pl (fun b => if b = w3.heap.size then 1 else if b = st then 2 else if b = qb then 3 else 0) nilB room [] 0 := by
  have hql := QL.lt hq
  have hb := dn.below_alloc w3 ob
  refine ⟨boxB_cell w3 st qb 0 hob (by decide), fun k hk => ?_, boxB_cell w3 st qb 202 hob (by decide), fun j => ?_, StoC.keep hs (hb.block _ h4), QL.keep hq (hb.block _ hql) (fun G e => nomatch e), fun k hk hn => absurd rfl hn, if_pos rfl, ?_, ?_, (fun G e => nomatch e), fun k hk hn => absurd rfl hn, fun b hb' => ?_, fun b hb' => ?_⟩
  · rw [boxB_cell w3 st qb (1 + k) hob (by omega), if_neg (by omega), if_neg (by omega)]; rfl
  · subst hob; generalize ((Tryz.zeroCells119.setIfInBounds 0 (Pq st)).setIfInBounds 202 (Pq qb)) = Z; simp
  · rw [if_neg (by omega), if_pos rfl]
  · rw [if_neg (by omega), if_neg (fun e => h3 e.symm), if_pos rfl]
  · rw [if_neg (by omega), if_neg (by omega), if_neg (by omega)]
  · have : (w3.alloc ob).heap.size = w3.heap.size + 1 := World.size_alloc _ _
    rw [if_neg (by omega), if_neg (by omega), if_neg (by omega)]
theorem fresh_eq : fresh = ⟨upd nilB.ino 1 (newI 2 1 ⟨#[]⟩), nilB.used⟩ := rfl
def upto (k : Nat) : Nat → Bool := fun j => decide (2 ≤ j ∧ j < k)
theorem upto_two : fl (upto 2) 1 200 = [] := by
  cases h : fl (upto 2) 1 200 with
  | nil => rfl
  | cons x r =>
    obtain ⟨j, _, _, _, h4, _⟩ := fl_cons h
    unfold upto at h4; simp at h4; omega
theorem upto_next {k : Nat} (h1 : 2 ≤ k) (h2 : k ≤ 200) : ins (kk k) (fl (upto k) 1 200) = fl (upto (k + 1)) 1 200 := by
  rw [fl_ins (by omega) (by omega) (by unfold upto; simp)]
  exact fl_congr fun j _ _ => by
    unfold setB upto
    by_cases e : j = k
    · subst e; simp; omega
    · rw [if_neg e]
      by_cases e2 : 2 ≤ j ∧ j < k
      · rw [decide_eq_true e2, decide_eq_true (by omega)]
      · rw [decide_eq_false e2, decide_eq_false (by omega)]
theorem upto_all : fl (upto 201) 1 200 = freeL fresh := by
  refine freeL_of fun j h1 h2 => ?_
  unfold upto zf
  rw [fresh_ino]
  by_cases e : j = 1
  · subst e; simp
  · rw [if_neg e]; simp [Ino.nil]; omega
def NewE (w : World) (lo room : Nat) (e : Ending) (w' : World) : Prop :=
  ∃ P st qb qo pl tag, e = .returned (Pq P) ∧ CB w' P lo st qb qo pl tag fresh room (freeL fresh) 199 ∧ (∀ b, b < w.heap.size → tag b = 0) ∧ Below w.heap.size w w' ∧ w.heap.size ≤ P
/-- Mid-way: the numbers below k are in the queue. -/
def MidN (w : World) (P lo st qb room k : Nat) (wr : World) : Prop :=
  ∃ qo pl tag, CB wr P lo st qb qo pl tag fresh room (fl (upto k) 1 200) (k - 2) ∧ (∀ b, b < w.heap.size → tag b = 0) ∧ Below w.heap.size w wr
theorem MidN.push {w wr : World} {P lo st qb room k : Nat} (h : MidN w P lo st qb room k wr) (h1 : 2 ≤ k) (h2 : k ≤ 200) :
    wr.cell? ⟨P, 202, none⟩ = some (Pq qb) ∧ Calls Tryz.prog 76 #[Pq qb, .int .i64 (k : Int), .int .i64 (k : Int)] wr (fun e w' => e = .returned (.tuple #[]) ∧ MidN w P lo st qb room (k + 1) w') := by
  obtain ⟨qo, pl, tag, h, ht, hb⟩ := h
  refine ⟨h.cq, (h.qpush (by omega) (k : Int) (k : Int)).mono ?_⟩
  rintro e w' ⟨he, qo', pl', tag', k1, k2, k3⟩
  rw [upto_next h1 h2, show k - 2 + 1 = k + 1 - 2 by omega] at k1
  refine ⟨he, qo', pl', tag', k1, fun b hb' => by rw [k2.tg b (Nat.lt_of_lt_of_le hb' hb.size)]; exact ht b hb', hb.trans ⟨k2.o.os, k2.o.tape, k2.o.output, k2.o.size, fun j hj => k2.o.block j (Nat.lt_of_lt_of_le hj hb.size) (by rw [ht j hj]; simp)⟩⟩
/-- The root is laid. -/
theorem new_born {w w4 w5 : World} {P lo st qb room : Nat} {pl : Nat → Pl} {tag : Nat → Nat} {p : Pl} (h : CB w4 P lo st qb none pl tag nilB room [] 0) (ht : ∀ b, b < w.heap.size → tag b = 0) (hw : Below w.heap.size w w4) (hb : Below w4.heap.size w4 w5) (hx : InoC w5 st lo p (newI 2 1 ⟨#[]⟩)) (b1 : w4.heap.size ≤ p.nd) (b3 : w4.heap.size ≤ p.di ∧ p.di ≠ p.nd ∧ p.dr = none) (hP : w.heap.size ≤ P) :
    w5.cell? ⟨P, 2, none⟩ = some (.pointer none) ∧ w5.frozen? ⟨P, 2, none⟩ = false ∧ MidN w P lo st qb room 2 (w5.setCell ⟨P, 2, none⟩ (Pq p.nd)) := by
  obtain ⟨tag', h1, h2⟩ := h.born (k := 1) (by decide) (p := p) (x := newI 2 1 ⟨#[]⟩) rfl (by show (2 : Int) ≠ 0; decide) hb hx b1 (fun e => by cases e) (fun _ => b3)
  rw [← fresh_eq, ← upto_two] at h1
  refine ⟨(hb.cell (p := ⟨P, 2, none⟩) h.plt.1).trans (h.ci 1 (by decide)), (hb.frozen (p := ⟨P, 2, none⟩) h.plt.1).trans (h.cf 2), none, _, tag', h1, fun b hb' => ?_, (hw.trans (hb.mono hw.size)).setCell hP _⟩
  rw [h2 b (Nat.lt_of_lt_of_le hb' hw.size)]; exact ht b hb'
set_option maxRecDepth 100000 in
set_option maxHeartbeats 1000000 in
theorem new_yes (room lo : Nat) (w : World) (hr : room ≤ 65536) (hlo : lo ≤ w.heap.size) : Calls Tryz.prog 27 #[.int .i64 (room : Int)] w (NewE w lo room) := by
  have HN := Lib.hid (bl.new_yes room w hr)
  have HQ := Lib.hid (fun w' (hlo : lo ≤ w'.heap.size) => qu.lnew w' lo hlo)
  have HLO := Lib.hid hlo
  go_enter Tryz.func27, Tryz.ntmps27
  go_wp2_with fail
  refine HN.out.mono ?_
  rintro e w2 ⟨rfl, rfl⟩
  go_wp2_with fail
  refine (HQ.out _ (by have := HLO.out; simp; omega)).mono ?_
  rintro e w3 ⟨rfl, q1, q2⟩
  have hz : (w.alloc (.cells #[.int .i64 (room : Int), .int .i64 0] 191)).heap.size = w.heap.size + 1 := World.size_alloc _ _
  rw [hz] at q1 q2
  have hl3 := QL.lt q1
  have hsto : StoC w3 w.heap.size room 0 := StoC.keep (w := w.alloc (.cells #[.int .i64 (room : Int), .int .i64 0] 191)) ⟨by simp, by simp, by simp⟩ (q2.block _ (by omega))
  have hw3 : Below w.heap.size w w3 := (dn.below_alloc w _).trans (q2.mono (by omega))
  have HS := Lib.hid (fun ob hob => CB.start (ob := ob) hob hsto q1 HLO.out (by have := HLO.out; omega) (by omega) (by omega) (fun _ => ⟨0, 0, 0, 0, none, 0⟩))
  have HBK := Lib.hid (fun ob hob => blank_any w3.heap.size w.heap.size lo (w3.alloc ob).drew (HS.out ob hob).c0 (HS.out ob hob).plt.1 (by have := (HS.out ob hob).plt; show lo ≤ (w3.alloc ob).heap.size; omega) 2 1 ⟨#[]⟩)
  have HNB := Lib.hid (fun ob hob w5 p (hb : Below (w3.alloc ob).heap.size (w3.alloc ob) w5) hx b1 b3 => new_born (w := w) (w5 := w5) (p := p) (HS.out ob hob) (fun b hb => by rw [if_neg (by omega), if_neg (by omega), if_neg (by omega)]) (hw3.trans ((dn.below_alloc w3 ob).mono (by omega))) hb hx b1 b3 (by omega))
  have hP3 : w.heap.size ≤ w3.heap.size := by omega
  generalize hst : w.heap.size = st at *
  clear q1 q2 hsto HS hz hw3 HN HQ
  go_wp2_with fail
  go_region_held3 (fun w' => True)
    (first | trivial | assumption | go_keep)
    (first
    | (go_at_call 75; ((with_reducible refine (HBK.out _ rfl).mono ?_); rintro e w5 ⟨p, rfl, hb5, hx5, b1, _, b3⟩; obtain ⟨z1, z2, z3⟩ := HNB.out _ rfl w5 p ((Below.refl _ _).drew.trans hb5) hx5 b1 (b3 rfl))))
  all_goals
    have HZ := Lib.hid z3
    clear z1 z2 z3 hb5 hx5 b1 b3 HBK HNB
    have HPP := Lib.hid hP3
    generalize hP : w3.heap.size = P at *
    generalize hW : w5.setCell ⟨P, 2, none⟩ (Pq p.nd) = w6 at *
    clear hW hP hl3 hP3
    go_wp2_with fail
    go_loopg [5] 199 (fun g s5 wr => ∃ k : Nat, g + k = 201 ∧ 2 ≤ k ∧ s5 = .int .i64 k ∧ Hid (MidN w P lo st (st + 1) room k wr))
    case atStart => exact ⟨2, by omega, by omega, rfl, HZ⟩
    case round =>
      obtain ⟨k, hg, hk2, rfl, HK⟩ := hrel
      by_cases hk : k ≤ 200
      · obtain ⟨c0, hq⟩ := HK.out.push hk2 hk
        have HQ := Lib.hid hq
        clear hq HK
        go_wp2_with fail
        refine HQ.out.mono ?_
        rintro e w7 ⟨rfl, hx⟩
        have HX := Lib.hid hx
        clear hx c0
        go_wp2_with fail
        go_roundg (gk - 1)
        case measure => omega
        case rel => exact ⟨k + 1, by omega, by omega, by go_num, HX⟩
      · have hkk : k = 201 := by omega
        have HE := Lib.hid (show NewE w lo room (.returned (Pq P)) wr by
          obtain ⟨qo, pl, tag, h, ht, hb⟩ := HK.out
          subst hkk
          rw [upto_all] at h
          exact ⟨P, st, st + 1, qo, pl, tag, rfl, h, ht, hb, by rw [hst]; exact HPP.out⟩)
        have hn : ¬ ((k : Int) ≤ 200) := by omega
        clear HK hkk hk
        go_wp2_with fail
        go_ret
        exact HE.out
end Go.Proofs.YtnnaoldpacbagaaGreat.cb
end
section
namespace Go.Proofs.YtnnaoldpacbagaaGreat.cb
open Go.RowKit
open Go.Proofs.YtnnaoldpacbagaaGreat.qu (KN ins QL)
open Go.Proofs.YtnnaoldpacbagaaGreat.dn (Du En lget lset ldel getV nerr dotB Sorted RetV)
open Go.Proofs.YtnnaoldpacbagaaGreat.bl (AB Bod BodC StoC Only Pq cut cutR wr WR U8)
open Go.Proofs.YtnnaoldpacbagaaGreat.br
set_option linter.unusedVariables false
set_option linter.unusedSimpArgs false

/-! ### holds -/
def HB (S : BS) (n : Int) : Prop := ∀ k, (S.ino k).holds ≤ n
theorem HB.upd {S : BS} {n : Int} (h : HB S n) {k : Nat} {x : Ino} {u : Nat} (hx : x.holds ≤ n) : HB ⟨upd S.ino k x, u⟩ n := fun j => by
  show (br.upd S.ino k x j).holds ≤ n
  by_cases e : j = k
  · subst e; rw [upd_same]; exact hx
  · rw [upd_other _ _ e]; exact h j
theorem HB.put {S : BS} {n : Int} (h : HB S n) {i : Int} {x : Ino} (hx : x.holds ≤ n) : HB (S.put i x) n := h.upd hx
theorem HB.putDir {S : BS} {n : Int} (h : HB S n) (d : Int) (L : List En) : HB (S.putDir d L) n := h.upd (h d.toNat)
theorem HB.less {S : BS} {n : Int} (h : HB S n) (i : Int) (dl dh : Int) (h0 : 0 ≤ dh) (hn : 0 ≤ n) : HB (S.less i dl dh) n := by
  unfold BS.less
  dsimp only
  split
  · exact h.upd (by show (0 : Int) ≤ n; exact hn)
  · exact h.upd (by show (S.at i).holds - dh ≤ n; have : (S.at i).holds ≤ n := h i.toNat; omega)
theorem HB.make {S : BS} {n : Int} (h : HB S n) (hn : 0 ≤ n) (d : Int) (s : ByteArray) (k : Int) (t : ByteArray) : HB (S.make d s k t).2 n := by
  unfold BS.make
  split
  · exact h
  · split
    · exact h
    · dsimp only
      split
      · exact h
      · exact (h.put (by exact hn)).putDir _ _
theorem HB.link {S : BS} {n : Int} (h : HB S n) (d : Int) (s : ByteArray) (i : Int) : HB (S.link d s i).2 n := by
  unfold BS.link
  split
  · exact h
  · split
    · exact h
    · split
      · exact h
      · split
        · exact h
        · exact (h.put (by exact h i.toNat)).putDir _ _
theorem HB.drop {S : BS} {n : Int} (h : HB S n) (hn : 0 ≤ n) (d : Int) (s : ByteArray) (i : Int) : HB (S.drop d s i) n := (h.putDir _ _).less _ _ _ (by decide) hn
theorem HB.unlink {S : BS} {n : Int} (h : HB S n) (hn : 0 ≤ n) (d : Int) (s : ByteArray) : HB (S.unlink d s).2 n := by
  unfold BS.unlink
  split
  · exact h
  · split
    · exact h
    · split
      · exact h
      · exact h.drop hn _ _ _
theorem HB.rmdir {S : BS} {n : Int} (h : HB S n) (hn : 0 ≤ n) (d : Int) (s : ByteArray) : HB (S.rmdir d s).2 n := by
  unfold BS.rmdir
  split
  · exact h
  · split
    · exact h
    · split
      · exact h
      · split
        · exact h
        · exact h.drop hn _ _ _
theorem HB.move {S : BS} {n : Int} (h : HB S n) (d : Int) (s : ByteArray) (t : Int) (u : ByteArray) (i : Int) : HB (S.move d s t u i) n := by
  unfold BS.move
  dsimp only
  split
  · exact ((h.putDir _ _).putDir _ _).put (by exact (((h.putDir _ _).putDir _ _) i.toNat))
  · exact (h.putDir _ _).putDir _ _
theorem HB.rename {S : BS} {n : Int} (h : HB S n) (hn : 0 ≤ n) (d : Int) (s : ByteArray) (t : Int) (u : ByteArray) : HB (S.rename d s t u).2 n := by
  unfold BS.rename
  split
  · exact h
  · split
    · exact h
    · split
      · exact h
      · split
        · exact h
        · dsimp only
          split
          · exact h
          · split
            · exact h.move _ _ _ _ _
            · split
              · exact h
              · split
                · exact h
                · split
                  · exact h
                  · split
                    · exact h
                    · exact (h.drop hn _ _ _).move _ _ _ _ _
theorem HB.hold {S : BS} {n : Int} (h : HB S n) (i : Int) : HB (S.hold i).2 (n + 1) := by
  have h' : HB S (n + 1) := fun k => by have := h k; omega
  unfold BS.hold
  split
  · exact h'
  · exact h'.put (by show (S.at i).holds + 1 ≤ n + 1; have : (S.at i).holds ≤ n := h i.toNat; omega)
theorem HB.release {S : BS} {n : Int} (h : HB S n) (hn : 0 ≤ n) (i : Int) : HB (S.release i).2 n := by
  unfold BS.release
  split
  · exact h
  · split
    · exact h
    · exact h.less _ _ _ (by decide) hn
theorem HB.mark {S : BS} {n : Int} (h : HB S n) (i m : Int) : HB (S.mark i m).2 n := by
  unfold BS.mark
  split
  · exact h
  · exact h.put (by exact h i.toNat)
theorem HB.cutI {S : BS} {n : Int} (h : HB S n) (i off : Int) : HB (S.cutI i off).2 n := by
  unfold BS.cutI
  split
  · exact h
  · exact h.upd (by exact h i.toNat)
theorem HB.wrote {S : BS} {n : Int} (h : HB S n) (i off : Int) (p : Nat) (f : Nat → UInt8) : HB (S.wrote i off p f) n := h.upd (by exact h i.toNat)
theorem HB.mono {S : BS} {n m : Int} (h : HB S n) (hm : n ≤ m) : HB S m := fun k => by have := h k; omega
theorem HB.fresh : HB fresh 0 := fun k => by rw [fresh_ino]; split <;> exact Int.le_refl _

theorem cut_ok {b : AB} (h : b.Ok) (off : Int) : (cut b off).Ok := by
  unfold cut
  split
  · refine ⟨by show off.toNat ≤ 65536; omega, fun k hk => ?_, fun i hi => ?_⟩
    · have : (b.th k && decide (16 * k < off.toNat)) = true := hk
      simp only [Bool.and_eq_true, decide_eq_true_eq] at this
      exact this.2
    · show (if i < off.toNat then b.dat i else 0) = 0
      rw [if_neg (by have : off.toNat ≤ i := hi; omega)]
  · exact h
theorem Good_cutI {S : BS} {room : Nat} (h : br.Good S room) (i off : Int) : br.Good (S.cutI i off).2 room := by
  unfold BS.cutI
  by_cases h1 : S.fileE i = 0
  · rw [if_neg (by omega)]
    obtain ⟨I, rfl, i1, i2, hk⟩ := fileE_ok h1
    have hb := h.1.body I
    have hn := bl.cut_n (S.ino I).body off
    have := (Good_body h I).1
    have hr := h.1.room
    show br.Good ⟨upd S.ino ((I : Int)).toNat { S.at (I : Int) with body := cut (S.at (I : Int)).body off }, _⟩ room
    rw [at_nat, Int.toNat_natCast]
    exact h.turn hk (cut_ok hb off) (by omega)
  · rw [if_pos h1]; exact h
theorem Good_wr {S S' : BS} {room : Nat} {i off : Int} {len p : Nat} {f : Nat → UInt8} {err : Int} (h : br.Good S room) (hw : WrI S room i off len f p err S') : br.Good S' room := by
  rcases hw with ⟨_, _, _, rfl⟩ | ⟨h1, _, h3, h4, rfl⟩
  · exact h
  · obtain ⟨I, rfl, i1, i2, hk⟩ := fileE_ok h1
    unfold BS.wrote
    rw [at_nat] at h3 h4 ⊢
    rw [Int.toNat_natCast]
    exact h.turn hk h4 h3

/-! ### the state -/
/-- A branch that the call made behind w0; the blocks X are not its. -/
def BrX (w0 w : World) (P : Nat) (X : Nat → Prop) (S : BS) (room T : Nat) : Prop :=
  ∃ st qb qo pl tag Tq, CB w P w0.heap.size st qb qo pl tag S room (freeL S) Tq ∧ Tq ≤ 199 + T ∧ br.Good S room ∧ room ≤ 65536 ∧ HB S T ∧ Below w0.heap.size w0 w ∧ ∀ b, X b → b < w.heap.size ∧ tag b = 0
abbrev Same (X : Nat → Prop) (w w' : World) : Prop := dn.Same X w w'
abbrev No : Nat → Prop := fun _ => False
section
variable {w0 w w' : World} {P room T : Nat} {X : Nat → Prop} {S : BS}
theorem BrX.bel (h : BrX w0 w P X S room T) : Below w0.heap.size w0 w := by obtain ⟨_, _, _, _, _, _, _, _, _, _, _, h, _⟩ := h; exact h
theorem BrX.good (h : BrX w0 w P X S room T) : br.Good S room := by obtain ⟨_, _, _, _, _, _, _, _, h, _⟩ := h; exact h
theorem BrX.below (h : BrX w0 w P X S room T) (hb : Below w.heap.size w w') : BrX w0 w' P X S room T := by
  obtain ⟨st, qb, qo, pl, tag, Tq, h1, h2, h3, h4, h5, h6, h7⟩ := h
  exact ⟨st, qb, qo, pl, tag, Tq, h1.below hb, h2, h3, h4, h5, h6.trans (hb.mono h6.size), fun b hx => ⟨Nat.lt_of_lt_of_le (h7 b hx).1 hb.size, (h7 b hx).2⟩⟩
theorem BrX.drew (h : BrX w0 w P X S room T) : BrX w0 w.drew P X S room T := h.below (Below.refl _ _).drew
theorem BrX.forget (h : BrX w0 w P X S room T) : BrX w0 w P No S room T := by
  obtain ⟨st, qb, qo, pl, tag, Tq, h1, h2, h3, h4, h5, h6, h7⟩ := h
  exact ⟨st, qb, qo, pl, tag, Tq, h1, h2, h3, h4, h5, h6, fun _ h => h.elim⟩
theorem BrX.sub (h : BrX w0 w P X S room T) {Y : Nat → Prop} (hy : ∀ b, Y b → X b) : BrX w0 w P Y S room T := by
  obtain ⟨st, qb, qo, pl, tag, Tq, h1, h2, h3, h4, h5, h6, h7⟩ := h
  exact ⟨st, qb, qo, pl, tag, Tq, h1, h2, h3, h4, h5, h6, fun b hb => h7 b (hy b hb)⟩
/-- What lies behind all that there was, and what lay below the call's beginning, is not the branch's. -/
theorem BrX.over (h : BrX w0 w P X S room T) (hb : Below w.heap.size w w') : BrX w0 w' P (fun b => X b ∨ (w.heap.size ≤ b ∧ b < w'.heap.size) ∨ b < w0.heap.size) S room T := by
  have h' := h.below hb
  obtain ⟨st, qb, qo, pl, tag, Tq, h1, h2, h3, h4, h5, h6, h7⟩ := h
  refine ⟨st, qb, qo, pl, tag, Tq, h1.below hb, h2, h3, h4, h5, h'.bel, fun b hx => ?_⟩
  rcases hx with hx | ⟨h8, h9⟩ | hx
  · exact ⟨Nat.lt_of_lt_of_le (h7 b hx).1 hb.size, (h7 b hx).2⟩
  · exact ⟨h9, h1.hi b h8⟩
  · exact ⟨Nat.lt_of_lt_of_le hx (Nat.le_trans h6.size hb.size), h1.lo b hx⟩
theorem BrX.lt (h : BrX w0 w P X S room T) : P < w.heap.size ∧ w0.heap.size ≤ P := by obtain ⟨_, _, _, _, _, _, h, _⟩ := h; exact h.plt
/-- From a function's contract to the state. -/
theorem BrX.next {st qb : Nat} {qo : Option Nat} {pl : Nat → Pl} {tag : Nat → Nat} {Tq : Nat} {S' : BS} {v : Value} {e : Ending} (h1 : CB w P w0.heap.size st qb qo pl tag S room (freeL S) Tq) (h2 : Tq ≤ 199 + T) (h4 : room ≤ 65536) (h6 : Below w0.heap.size w0 w) (h7 : ∀ b, X b → b < w.heap.size ∧ tag b = 0)
    (hx : RetG w P w0.heap.size st qb tag v S' room Tq e w') (hG : br.Good S' room) (hH : HB S' ((T : Int) + 1)) : e = .returned v ∧ BrX w0 w' P X S' room (T + 1) ∧ Same X w w' := by
  obtain ⟨he, qo', pl', tag', T', hT, k1, k2⟩ := hx
  refine ⟨he, ⟨st, qb, qo', pl', tag', T', k1, by omega, hG, h4, by simpa using hH, ?_, fun b hb => ?_⟩, fun b hb => ?_⟩
  · exact h6.trans ⟨k2.o.os, k2.o.tape, k2.o.output, k2.o.size, fun k hk => k2.o.block k (Nat.lt_of_lt_of_le hk h6.size) (by rw [h1.lo k hk]; simp)⟩
  · exact ⟨Nat.lt_of_lt_of_le (h7 b hb).1 k2.o.size, by rw [k2.tg b (h7 b hb).1]; exact (h7 b hb).2⟩
  · exact k2.o.block b (h7 b hb).1 (by rw [(h7 b hb).2]; simp)
theorem x_make (h : BrX w0 w P X S room T) (hT : T ≤ 1000) (d : Int) (s : ByteArray) (k : Int) (t : ByteArray) (hm : s.size ≤ 9223372036854775807) (hmt : t.size ≤ 9223372036854775807) :
    Calls Tryz.prog 29 #[Pq P, .int .i64 d, .string s, .int .i64 k, .string t] w (fun e w' => e = .returned (.tuple #[.int .i64 (S.make d s k t).1.1, .int .i64 (S.make d s k t).1.2]) ∧ BrX w0 w' P X (S.make d s k t).2 room (T + 1) ∧ Same X w w') := by
  obtain ⟨st, qb, qo, pl, tag, Tq, h1, h2, h3, h4, h5, h6, h7⟩ := h
  exact (make_any h1 h3 (by omega) d s k t hm hmt).mono fun _ _ hx => BrX.next h1 h2 h4 h6 h7 hx (h3.make d s k t) ((h5.make (by omega) d s k t).mono (by omega))
theorem x_link (h : BrX w0 w P X S room T) (d : Int) (s : ByteArray) (i : Int) (hm : s.size ≤ 9223372036854775807) :
    Calls Tryz.prog 46 #[Pq P, .int .i64 d, .string s, .int .i64 i] w (fun e w' => e = .returned (.int .i64 (S.link d s i).1) ∧ BrX w0 w' P X (S.link d s i).2 room (T + 1) ∧ Same X w w') := by
  obtain ⟨st, qb, qo, pl, tag, Tq, h1, h2, h3, h4, h5, h6, h7⟩ := h
  exact (link_any h1 h3 d s i hm).mono fun _ _ hx => BrX.next h1 h2 h4 h6 h7 hx (h3.link d s i) ((h5.link d s i).mono (by omega))
theorem x_unlink (h : BrX w0 w P X S room T) (hT : T ≤ 1000) (d : Int) (s : ByteArray) :
    Calls Tryz.prog 31 #[Pq P, .int .i64 d, .string s] w (fun e w' => e = .returned (.int .i64 (S.unlink d s).1) ∧ BrX w0 w' P X (S.unlink d s).2 room (T + 1) ∧ Same X w w') := by
  obtain ⟨st, qb, qo, pl, tag, Tq, h1, h2, h3, h4, h5, h6, h7⟩ := h
  exact (unlink_any h1 h3 h4 (by omega) d s).mono fun _ _ hx => BrX.next h1 h2 h4 h6 h7 (RetG.of hx) (h3.unlink d s) ((h5.unlink (by omega) d s).mono (by omega))
theorem x_rename (h : BrX w0 w P X S room T) (hT : T ≤ 1000) (d : Int) (s : ByteArray) (t : Int) (u : ByteArray) (hm : u.size ≤ 9223372036854775807) :
    Calls Tryz.prog 48 #[Pq P, .int .i64 d, .string s, .int .i64 t, .string u] w (fun e w' => e = .returned (.int .i64 (S.rename d s t u).1) ∧ BrX w0 w' P X (S.rename d s t u).2 room (T + 1) ∧ Same X w w') := by
  obtain ⟨st, qb, qo, pl, tag, Tq, h1, h2, h3, h4, h5, h6, h7⟩ := h
  exact (rename_any h1 h3 h4 (by omega) d s t u hm).mono fun _ _ hx => BrX.next h1 h2 h4 h6 h7 hx (h3.rename d s t u) ((h5.rename (by omega) d s t u).mono (by omega))
theorem x_mark (h : BrX w0 w P X S room T) (i m : Int) :
    Calls Tryz.prog 33 #[Pq P, .int .i64 i, .int .i64 m] w (fun e w' => e = .returned (.int .i64 (S.mark i m).1) ∧ BrX w0 w' P X (S.mark i m).2 room (T + 1) ∧ Same X w w') := by
  obtain ⟨st, qb, qo, pl, tag, Tq, h1, h2, h3, h4, h5, h6, h7⟩ := h
  exact (mark_any h1 h3 i m).mono fun _ _ hx => BrX.next h1 h2 h4 h6 h7 hx (h3.mark i m) ((h5.mark i m).mono (by omega))
theorem x_write (h : BrX w0 w P X S room T) (i off : Int) (A : Option Addr) (len dc : Nat) (f : Nat → UInt8) (hA : ∀ j, j < len → ∃ b o, A = some ⟨b, o, none⟩ ∧ X b ∧ w.cell? ⟨b, o + j, none⟩ = some (U8 (f j))) (hlc : len ≤ dc) (hdc : dc ≤ maxLen) :
    Calls Tryz.prog 35 #[Pq P, .int .i64 i, .int .i64 off, .slice A len dc] w (fun e w' => ∃ p err S', WrI S room i off len f p err S' ∧ e = .returned (.tuple #[.int .i64 (p : Int), .int .i64 err]) ∧ BrX w0 w' P X S' room (T + 1) ∧ Same X w w') := by
  obtain ⟨st, qb, qo, pl, tag, Tq, h1, h2, h3, h4, h5, h6, h7⟩ := h
  refine (write_any h1 h3 h4 i off A len dc f (fun j hj => ?_) hlc hdc).mono fun _ _ ⟨p, err, S', hw, hx⟩ => ⟨p, err, S', hw, BrX.next h1 h2 h4 h6 h7 hx (Good_wr h3 hw) ?_⟩
  · obtain ⟨b, o, e, hX, hc⟩ := hA j hj
    exact ⟨b, o, e, fun hn => hn (h7 b hX).2, (h7 b hX).1, hc⟩
  · rcases hw with ⟨_, _, _, rfl⟩ | ⟨_, _, _, _, rfl⟩
    · exact h5.mono (by omega)
    · exact (h5.wrote i off p f).mono (by omega)
theorem x_read (h : BrX w0 w P X S room T) (i off n : Int) : Calls Tryz.prog 71 #[Pq P, .int .i64 i, .int .i64 off, .int .i64 n] w (ReadI w S i off n) := by
  obtain ⟨st, qb, qo, pl, tag, Tq, h1, h2, h3, _⟩ := h
  exact read_any h1 h3 i off n
theorem x_get (h : BrX w0 w P X S room T) (d : Int) (s : ByteArray) : Calls Tryz.prog 55 #[Pq P, .int .i64 d, .string s] w (RetW w (.tuple #[.int .i64 (S.get d s).1, .int .i64 (S.get d s).2])) := by
  obtain ⟨st, qb, qo, pl, tag, Tq, h1, h2, h3, _⟩ := h
  exact get_any h1 h3 d s
theorem x_kind (h : BrX w0 w P X S room T) (i : Int) : Calls Tryz.prog 50 #[Pq P, .int .i64 i] w (RetI w (S.kindOf i)) := by
  obtain ⟨st, qb, qo, pl, tag, Tq, h1, h2, h3, _⟩ := h
  exact kind_any h1 h3 i
theorem x_marks (h : BrX w0 w P X S room T) (i : Int) : Calls Tryz.prog 114 #[Pq P, .int .i64 i] w (RetI w (S.marksOf i)) := by
  obtain ⟨st, qb, qo, pl, tag, Tq, h1, h2, h3, _⟩ := h
  exact marks_any h1 h3 i
theorem x_stat (h : BrX w0 w P X S room T) (i : Int) : Calls Tryz.prog 67 #[Pq P, .int .i64 i] w (RetW w (statV S i)) := by
  obtain ⟨st, qb, qo, pl, tag, Tq, h1, h2, h3, _⟩ := h
  exact stat_any h1 h3 i
theorem x_target (h : BrX w0 w P X S room T) (i : Int) : Calls Tryz.prog 69 #[Pq P, .int .i64 i] w (fun e w' => e = .returned (.tuple #[.string (S.targetOf i).1, .int .i64 (S.targetOf i).2]) ∧ w' = w) := by
  obtain ⟨st, qb, qo, pl, tag, Tq, h1, h2, h3, _⟩ := h
  exact target_any h1 h3 i
theorem x_all (h : BrX w0 w P X S room T) (i : Int) : Calls Tryz.prog 117 #[Pq P, .int .i64 i] w (fun e w' => ∃ o c, e = .returned (.tuple #[.slice (dn.Ao o) (S.all i).1.length c, .int .i64 (S.all i).2]) ∧ (S.all i).1.length ≤ c ∧ c ≤ maxLen ∧ dn.Sl w' w.heap.size o c (S.all i).1 ∧ Below w.heap.size w w') := by
  obtain ⟨st, qb, qo, pl, tag, Tq, h1, h2, h3, _⟩ := h
  exact all_any h1 h3 i
theorem x_used (h : BrX w0 w P X S room T) : Calls Tryz.prog 45 #[Pq P] w (fun e w' => e = .returned (.int .i64 (S.used : Int)) ∧ w' = w) := by
  obtain ⟨st, qb, qo, pl, tag, Tq, h1, h2, h3, _⟩ := h
  exact used_any h1
theorem x_inodes (h : BrX w0 w P X S room T) : Calls Tryz.prog 44 #[Pq P] w (fun e w' => e = .returned (.int .i64 (S.count 200 : Int)) ∧ w' = w) := by
  obtain ⟨st, qb, qo, pl, tag, Tq, h1, h2, h3, _⟩ := h
  have hl := freeL_length S
  have := inodes_any h1 (freeL_le S)
  rw [show (200 - ((freeL S).length : Int)) = (S.count 200 : Int) by omega] at this
  exact this
theorem x_new (room : Nat) (hr : room ≤ 65536) (hb : Below w0.heap.size w0 w) : Calls Tryz.prog 27 #[.int .i64 (room : Int)] w (fun e w' => ∃ P, e = .returned (Pq P) ∧ BrX w0 w' P (fun b => b < w.heap.size) fresh room 0 ∧ Below w.heap.size w w' ∧ w.heap.size ≤ P) := by
  refine (new_yes room w0.heap.size w hr hb.size).mono ?_
  rintro e w' ⟨P, st, qb, qo, pl, tag, he, h1, h2, h3, h4⟩
  exact ⟨P, he, ⟨st, qb, qo, pl, tag, 199, h1, Nat.le_refl _, Good.fresh room, hr, HB.fresh, hb.trans (h3.mono hb.size), fun b hb' => ⟨Nat.lt_of_lt_of_le hb' h3.size, h2 b hb'⟩⟩, h3, h4⟩
end
end Go.Proofs.YtnnaoldpacbagaaGreat.cb
end
section
namespace Go.Proofs.YtnnaoldpacbagaaGreat.cb
open Go.RowKit
open Go.Proofs.YtnnaoldpacbagaaGreat.br
open Go.Proofs.YtnnaoldpacbagaaGreat.dn (En nerr lget lset ldel dotB Sorted lget_some lget_none ldel_mem ldel_sorted lset_mem lset_sorted)
set_option linter.unusedVariables false
set_option linter.unusedSimpArgs false

theorem BrX.up {w0 w : World} {P room T T' : Nat} {X : Nat → Prop} {S : BS} (h : BrX w0 w P X S room T) (hT : T ≤ T') : BrX w0 w P X S room T' := by
  obtain ⟨st, qb, qo, pl, tag, Tq, h1, h2, h3, h4, h5, h6, h7⟩ := h
  exact ⟨st, qb, qo, pl, tag, Tq, h1, by omega, h3, h4, h5.mono (by omega), h6, h7⟩
theorem nerr_len {s : ByteArray} (h : nerr s.data.toList = 0) : 1 ≤ s.size ∧ s.size ≤ 60 := by
  unfold nerr at h
  have e : s.data.toList.length = s.size := Array.length_toList
  split at h
  · cases h
  · rename_i h0
    split at h
    · cases h
    · have : s.data.toList.length ≠ 0 := fun e0 => h0 (List.eq_nil_of_length_eq_zero e0)
      omega
theorem below_deep {S : BS} {deep : Nat → Nat} (hdp : ∀ k, (S.ino k).kind = 2 → (S.ino k).links ≠ 0 → k ≠ 1 → ∃ p : Nat, (S.ino k).parent = (p : Int) ∧ (S.ino p).kind = 2 ∧ (S.ino p).links ≠ 0 ∧ deep p < deep k) (hr : (S.ino 1).parent = 1) {I : Nat} :
    ∀ n k, (S.ino k).kind = 2 → (S.ino k).links ≠ 0 → S.below (k : Int) I n = true → k = I ∨ deep I < deep k := by
  intro n
  induction n with
  | zero => intro k _ _ h; cases h
  | succ n ih =>
    intro k hk hl h
    rw [below_up] at h
    by_cases e : k = I
    · exact .inl e
    · rw [decide_eq_false (fun e1 => e (by omega)), Bool.false_or] at h
      by_cases e1 : k = 1
      · subst e1
        rw [hr] at h
        exact ih 1 hk hl h
      · obtain ⟨p, hp, hpk, hpl, hlt⟩ := hdp k hk hl e1
        rw [hp] at h
        rcases ih p hpk hpl h with e2 | e2
        · subst e2; exact .inr hlt
        · exact .inr (by omega)
theorem below_moved {S S' : BS} {D T I : Nat} {s u : ByteArray} (d : Moved S S' D T I s u) (hI : 1 ≤ I) : ∀ n (x : Int), S'.below x I n = S.below x I n := by
  intro n
  induction n with
  | zero => intro x; rfl
  | succ n ih =>
    intro x
    unfold BS.below
    by_cases e : x = (I : Int)
    · rw [decide_eq_true e]; rfl
    · rw [decide_eq_false e, Bool.false_or, Bool.false_or]
      have hp : (S'.at x).parent = (S.at x).parent := by
        show (S'.ino x.toNat).parent = (S.ino x.toNat).parent
        rw [d.parent, if_neg (fun e2 => e (by omega))]
      rw [hp, ih]
theorem get_of {S : BS} {D : Nat} {s : ByteArray} {v : Int} (h1 : 1 ≤ D) (h2 : D ≤ 200) (hk : (S.ino D).kind = 2) (hg : lget s (S.ino D).dir = some v) : S.get (D : Int) s = (v, 0) := by
  have hd : S.dirE (D : Int) false = 0 := by
    unfold BS.dirE BS.isI
    rw [at_nat, if_neg (by simp only [decide_eq_false_iff_not, Decidable.not_not]; exact ⟨by omega, by omega, by rw [hk]; decide⟩), if_neg (by rw [hk]; decide), if_neg (fun e => by cases e.1)]
  rw [get_eq hd, hg]
theorem get_no {S : BS} {D : Nat} {s : ByteArray} (h1 : 1 ≤ D) (h2 : D ≤ 200) (hk : (S.ino D).kind = 2) (hg : lget s (S.ino D).dir = none) : S.get (D : Int) s = (0, 2) := by
  have hd : S.dirE (D : Int) false = 0 := by
    unfold BS.dirE BS.isI
    rw [at_nat, if_neg (by simp only [decide_eq_false_iff_not, Decidable.not_not]; exact ⟨by omega, by omega, by rw [hk]; decide⟩), if_neg (by rw [hk]; decide), if_neg (fun e => by cases e.1)]
  rw [get_eq hd, hg]
theorem dirE_yes {S : BS} {D : Nat} (h1 : 1 ≤ D) (h2 : D ≤ 200) (hk : (S.ino D).kind = 2) (hl : (S.ino D).links ≠ 0) : S.dirE (D : Int) true = 0 := by
  unfold BS.dirE BS.isI
  rw [at_nat, if_neg (by simp only [decide_eq_false_iff_not, Decidable.not_not]; exact ⟨by omega, by omega, by rw [hk]; decide⟩), if_neg (by rw [hk]; decide), if_neg (fun e => hl e.2)]
theorem nameE_yes {s : ByteArray} (h : nerr s.data.toList = 0 ∧ dotB s = false) : nameE s = 0 := by
  unfold nameE
  rw [if_neg (fun e => by rw [h.2] at e; cases e.2)]
  exact h.1
/-- What a name that was moved leads to, and that it may be moved back. -/
theorem move_back {S : BS} {room D T I : Nat} (hG : br.Good S room) {s u : ByteArray} (hl : (S.ino D).links ≠ 0) (t1 : 1 ≤ T) (t2 : T ≤ 200) (tk : (S.ino T).kind = 2) (tl : (S.ino T).links ≠ 0)
    (hg : lget s (S.ino D).dir = some (I : Int)) (hu : lget u (S.ino T).dir = none) (hID : I ≠ D) (hIT : I ≠ T) : (S.move D s T u I).get T u = ((I : Int), 0) ∧ (S.move D s T u I).rename T u D s = (0, S) := by
  obtain ⟨hk, ⟨d1, d2⟩, I', hI', i1, i2, i3, i4, i5⟩ := hG.1.lead hg
  obtain rfl : I = I' := by omega
  have d := move_moved (S := S) s u hID hIT
  generalize hS : S.move D s T u I = S2 at *
  have hmem := (lget_some (hG.1.sorted D)).1 hg
  have hDk : (S2.ino D).kind = 2 := by rw [d.kind]; exact hk
  have hTk : (S2.ino T).kind = 2 := by rw [d.kind]; exact tk
  have hDl : (S2.ino D).links ≠ 0 := by rw [d.links]; exact hl
  have hTl : (S2.ino T).links ≠ 0 := by rw [d.links]; exact tl
  have gT : lget u (S2.ino T).dir = some (I : Int) := by rw [d.dir, if_pos rfl]; exact lget_lset (half_sorted hG.1 T)
  have gD : lget s (S2.ino D).dir = none := by
    rw [d.dir]
    by_cases e : D = T
    · subst e
      have hsu : s ≠ u := fun e => by subst e; rw [hg] at hu; cases hu
      rw [if_pos rfl, lget_lset_other (half_sorted hG.1 D) hsu]
      unfold halfD
      rw [if_pos rfl]; exact lget_gone s _
    · rw [if_neg e]
      unfold halfD
      rw [if_pos rfl]; exact lget_gone s _
  have hpar : (S.ino I).kind = 2 → (S.ino I).parent = (D : Int) := fun e => by
    have := hG.1.up D _ hmem (by show (S.ino ((I : Int)).toNat).kind = 2; rw [Int.toNat_natCast]; exact e)
    have h2 : (S.ino ((I : Int)).toNat).parent = (D : Int) := this
    rwa [Int.toNat_natCast] at h2
  have hb : ¬ ((S2.ino I).kind = 2 ∧ S2.below (D : Int) I 300 = true) := by
    rintro ⟨e1, e2⟩
    rw [d.kind] at e1
    rw [below_moved d i1] at e2
    obtain ⟨deep, hdp⟩ := hG.2
    have hr := hG.1.root.2.2
    rcases below_deep hdp hr 300 D hk hl e2 with e3 | e3
    · exact hID e3.symm
    · obtain ⟨p, hp, _, _, hlt⟩ := hdp I e1 (by omega) i3
      have := hpar e1
      obtain rfl : p = D := by omega
      omega
  refine ⟨get_of t1 t2 hTk gT, ?_⟩
  have hne := nameE_yes ⟨(hG.1.good D _ hmem).1, (hG.1.good D _ hmem).2.1⟩
  unfold BS.rename
  rw [get_of t1 t2 hTk gT, if_neg (by rw [dirE_yes t1 t2 hTk hTl]; decide), if_neg (show ¬ ((0 : Int) ≠ 0) by decide), if_neg (by rw [dirE_yes d1 d2 hDk hDl]; decide), if_neg (by rw [hne]; decide)]
  dsimp only
  rw [at_nat S2 I, at_nat S2 D, if_neg hb, gD]
  dsimp only
  rw [moved_back hG.1 hg hu d (move_moved (S := S2) u s hIT hID) hpar]
theorem moves_of {S : BS} {room : Nat} (hG : br.Good S room) {d t : Int} {s u : ByteArray} (h : (S.rename d s t u).1 = 0) :
    ∃ i : Int, S.get d s = (i, 0) ∧ (S.rename d s t u).2.get t u = (i, 0) ∧
      ((S.get t u = (i, 0) ∧ (S.rename d s t u).2 = S) ∨ (∃ old, S.get t u = (old, 0) ∧ old ≠ i ∧ ((S.rename d s t u).2.get d s).2 = 2) ∨ ((S.get t u).2 ≠ 0 ∧ (S.rename d s t u).2.rename t u d s = (0, S))) := by
  by_cases e1 : S.dirE d true = 0
  case neg => exfalso; unfold BS.rename at h; rw [if_pos e1] at h; exact e1 h
  by_cases e2 : (S.get d s).2 = 0
  case neg => exfalso; unfold BS.rename at h; rw [if_neg (by simpa using e1), if_pos e2] at h; exact e2 h
  by_cases e3 : S.dirE t true = 0
  case neg => exfalso; unfold BS.rename at h; rw [if_neg (by simpa using e1), if_neg (by simpa using e2), if_pos e3] at h; exact e3 h
  by_cases e4 : nameE u = 0
  case neg => exfalso; unfold BS.rename at h; rw [if_neg (by simpa using e1), if_neg (by simpa using e2), if_neg (by simpa using e3), if_pos e4] at h; exact e4 h
  obtain ⟨D, rfl, h1, h2, hk, hg⟩ := get_ok e2
  obtain ⟨T, rfl, t1, t2, tk, tl⟩ := dirE_ok e3
  obtain ⟨D', hD', _, _, _, hl⟩ := dirE_ok e1
  obtain rfl : D = D' := by omega
  have tl := tl rfl
  have hl := hl rfl
  have hs := nameE_ok e4
  have hget : S.get (D : Int) s = ((S.get (D : Int) s).1, 0) := by rw [← e2]
  clear e2
  generalize (S.get (D : Int) s).1 = v at *
  obtain ⟨_, _, I, rfl, i1, i2, i3, i4, i5⟩ := hG.1.lead hg
  have hID : I ≠ D := fun e => by subst e; exact hG.1.own hG.2 hg
  have hR : S.rename (D : Int) s (T : Int) u = (if (S.ino I).kind = 2 ∧ S.below (T : Int) I 300 = true then ((22 : Int), S)
      else match lget u (S.ino T).dir with
        | none => ((0 : Int), S.move D s T u I)
        | some old =>
          if old = (I : Int) then ((0 : Int), S)
          else if (S.at old).kind = 2 ∧ (S.ino I).kind ≠ 2 then ((21 : Int), S)
          else if (S.at old).kind ≠ 2 ∧ (S.ino I).kind = 2 then ((20 : Int), S)
          else if (S.at old).kind = 2 ∧ (S.at old).dir ≠ [] then ((39 : Int), S)
          else ((0 : Int), (S.drop T u old).move D s T u I)) := by
    unfold BS.rename
    rw [hget, if_neg (by simpa using e1), if_neg (show ¬ ((0 : Int) ≠ 0) by decide), if_neg (by simpa using e3), if_neg (by simpa using e4)]
    dsimp only
    rw [at_nat S I, at_nat S T]
    rfl
  by_cases e5 : (S.ino I).kind = 2 ∧ S.below (T : Int) I 300 = true
  · rw [if_pos e5] at hR; rw [hR] at h; cases h
  rw [if_neg e5] at hR
  have hIT : I ≠ T := fun e => by
    subst e
    exact e5 ⟨tk, below_self⟩
  refine ⟨(I : Int), hget, ?_⟩
  cases hT : lget u (S.ino T).dir with
  | none =>
    rw [hT] at hR
    dsimp only at hR
    rw [hR]
    have hm := move_back hG hl t1 t2 tk tl hg hT hID hIT
    refine ⟨hm.1, .inr (.inr ⟨?_, hm.2⟩)⟩
    rw [get_no t1 t2 tk hT]; decide
  | some old =>
    rw [hT] at hR
    dsimp only at hR
    by_cases e6 : old = (I : Int)
    · rw [if_pos e6] at hR
      rw [hR]
      have := get_of t1 t2 tk hT
      rw [e6] at this
      exact ⟨this, .inl ⟨this, rfl⟩⟩
    · rw [if_neg e6] at hR
      by_cases e7 : (S.at old).kind = 2 ∧ (S.ino I).kind ≠ 2
      · rw [if_pos e7] at hR; rw [hR] at h; cases h
      rw [if_neg e7] at hR
      by_cases e8 : (S.at old).kind ≠ 2 ∧ (S.ino I).kind = 2
      · rw [if_pos e8] at hR; rw [hR] at h; cases h
      rw [if_neg e8] at hR
      by_cases e9 : (S.at old).kind = 2 ∧ (S.at old).dir ≠ []
      · rw [if_pos e9] at hR; rw [hR] at h; cases h
      rw [if_neg e9] at hR
      rw [hR]
      have hd : (S.at old).kind = 2 → (S.at old).dir = [] := fun x => by
        by_cases y : (S.at old).dir = []
        · exact y
        · exact absurd ⟨x, y⟩ e9
      obtain ⟨hgood, J, rfl, hJ, dd⟩ := hG.drop hT hd
      rw [at_nat] at hd
      have hdJ : (S.ino J).dir = [] := by
        by_cases e : (S.ino J).kind = 2
        · exact hd e
        · exact hG.1.noDir J e
      have hJD : J ≠ D := fun e => by subst e; rw [hdJ] at hg; cases hg
      have hsu : D = T → s ≠ u := fun e1 e => by subst e1; subst e; rw [hg] at hT; exact e6 (by injection hT with x; exact x.symm)
      have hdirs := dd.dirs hJ hdJ
      have hS1 : (S.drop (T : Int) u J).ino D = { S.ino D with dir := if D = T then ldel u (S.ino T).dir else (S.ino D).dir } := by
        by_cases e : D = T
        · subst e; rw [if_pos rfl]; exact dd.dir
        · rw [if_neg e, dd.oth D e (fun e => hJD e.symm)]
      have dm := move_moved (S := S.drop (T : Int) u J) s u hID hIT
      have hT0 : (S.drop (T : Int) u J).ino T = { S.ino T with dir := ldel u (S.ino T).dir } := dd.dir
      have hso := half_sorted (D := D) (s := s) hgood.1 T
      generalize S.drop (T : Int) u J = S1 at *
      generalize S1.move D s T u I = S2 at *
      have hTk : (S2.ino T).kind = 2 := by rw [dm.kind, hT0]; exact tk
      have hDk : (S2.ino D).kind = 2 := by rw [dm.kind, hS1]; exact hk
      have gT : lget u (S2.ino T).dir = some (I : Int) := by rw [dm.dir, if_pos rfl]; exact lget_lset hso
      have gD : lget s (S2.ino D).dir = none := by
        rw [dm.dir]
        by_cases e : D = T
        · have hn := hsu e
          subst e
          rw [if_pos rfl, lget_lset_other hso hn]
          unfold halfD
          rw [if_pos rfl]; exact lget_gone s _
        · rw [if_neg e]
          unfold halfD
          rw [if_pos rfl]; exact lget_gone s _
      refine ⟨get_of t1 t2 hTk gT, .inr (.inl ⟨(J : Int), get_of t1 t2 tk hT, e6, ?_⟩)⟩
      rw [get_no h1 h2 hDk gD]
end Go.Proofs.YtnnaoldpacbagaaGreat.cb
end
section
namespace Go.Proofs.YtnnaoldpacbagaaGreat.cb
open Go.RowKit
open Go.Proofs.YtnnaoldpacbagaaGreat.br
open Go.Proofs.YtnnaoldpacbagaaGreat.dn (En nerr lget lset ldel dotB Sorted lget_some lget_none ldel_mem ldel_sorted lset_mem lset_sorted)
open Go.Proofs.YtnnaoldpacbagaaGreat.bl (AB Pq U8 wr wrB WR strF strF_eq over)
set_option linter.unusedVariables false
set_option linter.unusedSimpArgs false

theorem stat_of {S : BS} {I : Nat} (h1 : 1 ≤ I) (h2 : I ≤ 200) (hk : (S.ino I).kind ≠ 0) : S.stat (I : Int) = (((S.ino I).kind, (S.ino I).sizeOf, (S.ino I).links), 0) := by
  have hI : S.isI (I : Int) = true := by
    unfold BS.isI
    rw [at_nat]
    simp only [decide_eq_true_eq]
    exact ⟨by omega, by omega, hk⟩
  unfold BS.stat
  rw [if_pos hI, at_nat]
/-- A name more. -/
theorem names_of {S : BS} {room : Nat} (hG : br.Good S room) {t i : Int} {u : ByteArray} (h : (S.link t u i).1 = 0) :
    ∃ I : Nat, i = (I : Int) ∧ 1 ≤ I ∧ I ≤ 200 ∧ 1 ≤ (S.ino I).kind ∧ (S.ino I).kind ≠ 2 ∧ (S.ino I).kind ≤ 4 ∧ 1 ≤ (S.ino I).links ∧ (S.ino I).links ≤ 19 ∧ (S.link t u i).2.ino I = { S.ino I with links := (S.ino I).links + 1 } ∧ (S.link t u i).2.get t u = (i, 0) := by
  unfold BS.link at h ⊢
  by_cases e1 : S.vacant t u = 0
  case neg => exfalso; rw [if_pos e1] at h; exact e1 h
  rw [if_neg (by simpa using e1)] at h ⊢
  by_cases e2 : S.isI i = false ∨ (S.at i).links = 0
  · rw [if_pos e2] at h; cases h
  rw [if_neg e2] at h ⊢
  have hi : S.isI i = true := by
    cases hb : S.isI i
    · exact absurd (.inl hb) e2
    · rfl
  obtain ⟨I, rfl, i1, i2, i3⟩ := isI_yes hi
  rw [at_nat] at *
  by_cases e3 : (S.ino I).kind = 2
  · rw [if_pos e3] at h; cases h
  rw [if_neg e3] at h ⊢
  by_cases e4 : 20 ≤ (S.ino I).links
  · rw [if_pos e4] at h; cases h
  rw [if_neg e4]
  obtain ⟨T, rfl, t1, t2, tk, tl, hg, hs⟩ := vacant_ok e1
  have hne : I ≠ T := fun e => e3 (by rw [e]; exact tk)
  have hk := hG.1.kinds I
  have hn := (hG.1.nums I).1
  have hl : (S.ino I).links ≠ 0 := fun e => e2 (.inr e)
  have e5 : (S.put (I : Int) { S.ino I with links := (S.ino I).links + 1 }).at (T : Int) = S.ino T := by rw [at_nat, put_nat, if_neg (fun e => hne e.symm)]
  dsimp only
  unfold BS.putDir
  rw [e5]
  refine ⟨I, rfl, i1, i2, by omega, e3, hk.2, by omega, by omega, ?_, ?_⟩
  · rw [put_nat, if_neg hne, put_nat, if_pos rfl]
  · refine get_of t1 t2 ?_ ?_
    · rw [put_nat, if_pos rfl]; exact tk
    · rw [put_nat, if_pos rfl]; exact lget_lset (hG.1.sorted T)
/-- What is written at the beginning is read: of a file with room. -/
theorem wrote_read {S S' : BS} {room I len p : Nat} {f : Nat → UInt8} {err : Int} (i1 : 1 ≤ I) (i2 : I ≤ 200) (hk : (S.ino I).kind = 1) (hw : WrI S room (I : Int) 0 len f p err S') :
    p ≤ len ∧ (err = 0 ∨ err = 28) ∧ readI S' (I : Int) 0 (p : Int) = (0, p) ∧ ∀ j, j < p → (S'.at (I : Int)).body.dat ((0 : Int).toNat + j) = f j := by
  have hf : S.fileE (I : Int) = 0 := by
    unfold BS.fileE BS.kindOf BS.isI
    rw [at_nat, hk]
    simp [i1, i2]
    omega
  rcases hw with ⟨h1, _⟩ | ⟨_, h2, _, _, rfl⟩
  · exact absurd hf h1
  · have e2 : (S.wrote (I : Int) 0 p f).ino I = { S.ino I with body := wr (S.ino I).body 0 p f } := by
      show br.upd _ ((I : Int)).toNat _ I = _
      rw [Int.toNat_natCast, upd_same, at_nat]
    have hf2 : (S.wrote (I : Int) 0 p f).fileE (I : Int) = 0 := by
      unfold BS.fileE BS.kindOf BS.isI
      rw [at_nat, e2]
      simp [hk, i1, i2]
      omega
    have hp : p ≤ len ∧ (err = 0 ∨ err = 28) := by
      rcases h2 with ⟨a, _, _⟩ | ⟨_, _, b, c⟩ | ⟨a, _, _, _⟩ | ⟨_, _, _, b, c⟩
      · omega
      · exact ⟨by omega, .inl c⟩
      · omega
      · refine ⟨by have := b.le; omega, ?_⟩
        split at c
        · exact .inr c
        · exact .inl c
    refine ⟨hp.1, hp.2, ?_, fun j hj => ?_⟩
    · unfold readI
      rw [if_neg (by omega), at_nat, e2]
      unfold bl.readR
      rw [if_neg (by omega)]
      show ((0 : Int), min p ((if p = 0 then _ else max (S.ino I).body.size ((0 : Int).toNat + p)) - (0 : Int).toNat)) = _
      congr 1
      split <;> simp <;> omega
    · rw [at_nat, e2]
      show over (S.ino I).body.dat (0 : Int).toNat p f _ = _
      unfold over
      rw [if_pos (by simp; omega)]
      congr 1
      omega
/-- What is no file is not written. -/
theorem write_no {S S' : BS} {room I len p : Nat} {f : Nat → UInt8} {err : Int} (i1 : 1 ≤ I) (i2 : I ≤ 200) (hk : (S.ino I).kind ≠ 1) (h0 : (S.ino I).kind ≠ 0) (h2 : (S.ino I).kind ≠ 2) (hw : WrI S room (I : Int) 0 len f p err S') : p = 0 ∧ err = 22 := by
  have hf : S.fileE (I : Int) = 22 := by
    have hI : S.isI (I : Int) = true := by
      unfold BS.isI
      rw [at_nat]
      simp only [decide_eq_true_eq]
      exact ⟨by omega, by omega, h0⟩
    unfold BS.fileE BS.kindOf
    rw [if_pos hI, at_nat, if_neg h0, if_neg h2, if_neg hk]
  rcases hw with ⟨_, e1, e2, _⟩ | ⟨h1, _⟩
  · exact ⟨e1, by rw [e2, hf]⟩
  · rw [hf] at h1; cases h1
/-- A box of three cells of the call's own. -/
structure Bx3 (w : World) (b : Nat) (v0 v1 v2 : Value) : Prop where
  c0 : w.cell? ⟨b, 0, none⟩ = some v0
  c1 : w.cell? ⟨b, 1, none⟩ = some v1
  c2 : w.cell? ⟨b, 2, none⟩ = some v2
theorem Bx3.new (w : World) (v0 v1 v2 : Value) (t : TypeId) : Bx3 (w.alloc (.cells #[v0, v1, v2] t)) w.heap.size v0 v1 v2 := ⟨by simp, by simp, by simp⟩
theorem Bx3.lt {w : World} {b : Nat} {v0 v1 v2 : Value} (h : Bx3 w b v0 v1 v2) : b < w.heap.size := World.block_lt_of_cell? w _ h.c0
theorem Bx3.block {w w' : World} {b : Nat} {v0 v1 v2 : Value} (h : Bx3 w b v0 v1 v2) (hb : w'.heap[b]? = w.heap[b]?) : Bx3 w' b v0 v1 v2 :=
  ⟨(World.cell?_of_block (a := ⟨b, 0, none⟩) hb).trans h.c0, (World.cell?_of_block (a := ⟨b, 1, none⟩) hb).trans h.c1, (World.cell?_of_block (a := ⟨b, 2, none⟩) hb).trans h.c2⟩
theorem Bx3.below {w w' : World} {b : Nat} {v0 v1 v2 : Value} (h : Bx3 w b v0 v1 v2) (hb : Below w.heap.size w w') : Bx3 w' b v0 v1 v2 := h.block (hb.block _ h.lt)
theorem Bx3.same {w w' : World} {b : Nat} {X : Nat → Prop} {v0 v1 v2 : Value} (h : Bx3 w b v0 v1 v2) (hs : Same X w w') (hx : X b) : Bx3 w' b v0 v1 v2 := h.block (hs b hx)
/-- A branch beside blocks of the call's own that came last. -/
theorem BrX.beside {w0 w w' : World} {P room T : Nat} {X Y : Nat → Prop} {S : BS} (h : BrX w0 w P X S room T) (hb : Below w.heap.size w w') (hy : ∀ b, Y b → X b ∨ (w.heap.size ≤ b ∧ b < w'.heap.size)) : BrX w0 w' P Y S room T :=
  (h.over hb).sub fun b hY => by rcases hy b hY with h1 | h1
                                 · exact .inl h1
                                 · exact .inr (.inl h1)
end Go.Proofs.YtnnaoldpacbagaaGreat.cb
end
section
namespace Go.Proofs.YtnnaoldpacbagaaGreat.cb
open Go.RowKit
open Go.Proofs.YtnnaoldpacbagaaGreat.br
open Go.Proofs.YtnnaoldpacbagaaGreat.dn (En nerr lget lset ldel dotB Sorted lget_some lget_none ldel_mem ldel_sorted lset_mem lset_sorted)
open Go.Proofs.YtnnaoldpacbagaaGreat.bl (AB Pq U8 wr wrB WR strF strF_eq over)
set_option linter.unusedVariables false
set_option linter.unusedSimpArgs false

/-- Held k times more. -/
def hN (S : BS) (I k : Nat) : BS := S.put (I : Int) { S.ino I with holds := (S.ino I).holds + (k : Int) }
theorem hN_ino (S : BS) (I k j : Nat) : (hN S I k).ino j = if j = I then { S.ino I with holds := (S.ino I).holds + (k : Int) } else S.ino j := put_nat _ _ _ _
theorem hN_at (S : BS) (I k : Nat) : (hN S I k).ino I = { S.ino I with holds := (S.ino I).holds + (k : Int) } := by rw [hN_ino, if_pos rfl]
theorem hN_zero (S : BS) (I : Nat) : hN S I 0 = S := BS.ext' (fun j => by
  rw [hN_ino]
  by_cases e : j = I
  · subst e; rw [if_pos rfl]; show Ino.mk _ _ _ _ _ _ _ _ = _; rw [show (S.ino j).holds + ((0 : Nat) : Int) = (S.ino j).holds by omega]
  · rw [if_neg e]) rfl
theorem isI_of {S : BS} {I : Nat} (h1 : 1 ≤ I) (h2 : I ≤ 200) (hk : (S.ino I).kind ≠ 0) : S.isI (I : Int) = true := by
  unfold BS.isI
  rw [at_nat]
  simp only [decide_eq_true_eq]
  exact ⟨by omega, by omega, hk⟩
theorem kind_of {S : BS} {I : Nat} (h1 : 1 ≤ I) (h2 : I ≤ 200) : S.kindOf (I : Int) = (S.ino I).kind := by
  unfold BS.kindOf
  by_cases hk : (S.ino I).kind = 0
  · rw [hk, if_neg (by unfold BS.isI; rw [at_nat]; simp [hk])]
  · rw [if_pos (isI_of h1 h2 hk), at_nat]
theorem hN_hold {S : BS} {I : Nat} (h1 : 1 ≤ I) (h2 : I ≤ 200) (hk : (S.ino I).kind ≠ 0) (k : Nat) : (hN S I k).hold (I : Int) = (0, hN S I (k + 1)) := by
  have hi := isI_of (S := hN S I k) h1 h2 (by rw [hN_at]; exact hk)
  unfold BS.hold
  rw [hi, if_neg (by decide), at_nat, hN_at]
  refine Prod.ext rfl (BS.ext' (fun j => ?_) rfl)
  dsimp only
  rw [put_nat, hN_ino, hN_ino]
  by_cases e : j = I
  · subst e
    rw [if_pos rfl, if_pos rfl]
    show Ino.mk _ _ _ _ _ _ _ _ = Ino.mk _ _ _ _ _ _ _ _
    rw [show (S.ino j).holds + (k : Int) + 1 = (S.ino j).holds + ((k + 1 : Nat) : Int) by omega]
  · rw [if_neg e, if_neg e, if_neg e]
theorem hN_get {S : BS} {d : Int} {s : ByteArray} {I : Nat} (h : S.get d s = ((I : Int), 0)) (hk : (S.ino I).kind = 1) (k : Nat) : (hN S I k).get d s = ((I : Int), 0) := by
  obtain ⟨D, rfl, d1, d2, hD, hg⟩ := get_ok (by rw [h])
  rw [h] at hg
  have hne : D ≠ I := fun e => by subst e; rw [hD] at hk; cases hk
  have e : (hN S I k).ino D = S.ino D := by rw [hN_ino, if_neg hne]
  exact get_of d1 d2 (by rw [e]; exact hD) (by rw [e]; exact hg)
theorem held_file {S : BS} {d i : Int} {s : ByteArray} (h : S.get d s = (i, 0)) (hk : S.kindOf i = 1) : ∃ I : Nat, i = (I : Int) ∧ 1 ≤ I ∧ I ≤ 200 ∧ (S.ino I).kind = 1 := by
  unfold BS.kindOf at hk
  cases hi : S.isI i
  · rw [hi] at hk; cases hk
  · obtain ⟨I, rfl, i1, i2, i3⟩ := isI_yes hi
    rw [if_pos hi, at_nat] at hk
    exact ⟨I, rfl, i1, i2, hk⟩
theorem held_unlink {H : BS} {room I : Nat} (hG : br.Good H room) {d : Int} {s : ByteArray} (hg : H.get d s = ((I : Int), 0)) (hk : (H.ino I).kind = 1) (hh : 1 ≤ (H.ino I).holds) :
    ((H.unlink d s).1 = 0 ∧ (H.unlink d s).2.ino I = { H.ino I with links := (H.ino I).links - 1 } ∧ (H.unlink d s).2.used = H.used) ∨ ((H.unlink d s).1 = 2 ∧ (H.unlink d s).2 = H ∧ ∃ z : Nat, H.stat d = ((2, z, 0), 0)) := by
  obtain ⟨D, rfl, d1, d2, hD, hl⟩ := get_ok (by rw [hg])
  rw [hg] at hl
  have hne : I ≠ D := fun e => by subst e; rw [hD] at hk; cases hk
  by_cases hz : (H.ino D).links = 0
  · right
    have hd : H.dirE (D : Int) true = 2 := by
      unfold BS.dirE
      rw [isI_of d1 d2 (by rw [hD]; decide), if_neg (by decide), at_nat, if_neg (by rw [hD]; decide), if_pos ⟨rfl, hz⟩]
    refine ⟨by unfold BS.unlink; rw [if_pos (by rw [hd]; decide)]; exact hd, by unfold BS.unlink; rw [if_pos (by rw [hd]; decide)], (H.ino D).sizeOf, ?_⟩
    rw [stat_of d1 d2 (by rw [hD]; decide), hD, hz]
  · left
    have hd := dirE_yes d1 d2 hD hz
    have e : H.unlink (D : Int) s = (0, H.drop (D : Int) s (I : Int)) := by
      unfold BS.unlink
      rw [hg, if_neg (by rw [hd]; decide), if_neg (show ¬ ((0 : Int) ≠ 0) by decide), at_nat, if_neg (by rw [hk]; decide)]
    rw [e]
    have dd := drop_drop (S := H) s hne
    refine ⟨rfl, ?_⟩
    rcases dd.ino with ⟨_, _, h3, _⟩ | ⟨h1, _, h3⟩
    · omega
    · exact ⟨h1, h3⟩
/-- Released j times. -/
def rN (U : BS) (I j : Nat) : BS := U.put (I : Int) { U.ino I with holds := (U.ino I).holds - (j : Int) }
theorem rN_ino (S : BS) (I k j : Nat) : (rN S I k).ino j = if j = I then { S.ino I with holds := (S.ino I).holds - (k : Int) } else S.ino j := put_nat _ _ _ _
theorem rN_at (S : BS) (I k : Nat) : (rN S I k).ino I = { S.ino I with holds := (S.ino I).holds - (k : Int) } := by rw [rN_ino, if_pos rfl]
theorem rN_zero (S : BS) (I : Nat) : rN S I 0 = S := BS.ext' (fun j => by
  rw [rN_ino]
  by_cases e : j = I
  · subst e; rw [if_pos rfl]; show Ino.mk _ _ _ _ _ _ _ _ = _; rw [show (S.ino j).holds - ((0 : Nat) : Int) = (S.ino j).holds by omega]
  · rw [if_neg e]) rfl
/-- What is there when all was released. -/
def Fin (U F : BS) (I n : Nat) : Prop :=
  ((F.ino I).kind = 1 ∧ ¬ ((U.ino I).links = 0 ∧ (U.ino I).holds - (n : Int) = 0)) ∨ ((F.ino I).kind = 0 ∧ (U.ino I).links = 0 ∧ F.used ≤ U.used)
theorem rN_release {U : BS} {I : Nat} (h1 : 1 ≤ I) (h2 : I ≤ 200) (hk : (U.ino I).kind = 1) (n j : Nat) (hj : j < n) (hn : (n : Int) ≤ (U.ino I).holds) :
    ((rN U I j).release (I : Int)).1 = 0 ∧ (j + 1 < n → ((rN U I j).release (I : Int)).2 = rN U I (j + 1)) ∧ (j + 1 = n → Fin U ((rN U I j).release (I : Int)).2 I n) := by
  have hi := isI_of (S := rN U I j) h1 h2 (by rw [rN_at]; show (U.ino I).kind ≠ 0; rw [hk]; decide)
  have hne : ¬ ((U.ino I).holds - (j : Int) = 0) := by omega
  have e : (rN U I j).release (I : Int) = (0, (rN U I j).less (I : Int) 0 1) := by
    unfold BS.release
    rw [hi, if_neg (by decide), at_nat, rN_at, if_neg hne]
  rw [e]
  refine ⟨rfl, fun hl => ?_, fun hl => ?_⟩
  · unfold BS.less
    dsimp only
    rw [at_nat, rN_at]
    dsimp only
    rw [if_neg (by omega)]
    refine BS.ext' (fun k => ?_) rfl
    rw [put_nat, rN_ino, rN_ino]
    by_cases e : k = I
    · subst e
      rw [if_pos rfl, if_pos rfl]
      show Ino.mk _ _ _ _ _ _ _ _ = Ino.mk _ _ _ _ _ _ _ _
      rw [show (U.ino k).holds - (j : Int) - 1 = (U.ino k).holds - ((j + 1 : Nat) : Int) by omega, Int.sub_zero]
    · rw [if_neg e, if_neg e, if_neg e]
  · unfold BS.less
    dsimp only
    rw [at_nat, rN_at]
    dsimp only
    by_cases hz : (U.ino I).links - 0 = 0 ∧ (U.ino I).holds - (j : Int) - 1 = 0
    · rw [if_pos hz]
      refine .inr ⟨?_, by omega, ?_⟩
      · show (br.upd _ ((I : Int)).toNat _ I).kind = 0
        rw [Int.toNat_natCast, upd_same]; rfl
      · show (rN U I j).used - _ ≤ U.used
        exact Nat.sub_le _ _
    · rw [if_neg hz]
      refine .inl ⟨?_, by omega⟩
      rw [put_nat, if_pos rfl]; exact hk
theorem fileE_of {S : BS} {I : Nat} (h1 : 1 ≤ I) (h2 : I ≤ 200) (hk : (S.ino I).kind = 1) : S.fileE (I : Int) = 0 := by
  unfold BS.fileE
  rw [kind_of h1 h2, hk]; rfl
theorem readI_same {S U : BS} {I : Nat} (h1 : 1 ≤ I) (h2 : I ≤ 200) (hk : (S.ino I).kind = 1) (hu : (U.ino I).kind = 1) (hb : (U.ino I).body = (S.ino I).body) : readI U (I : Int) 0 65536 = readI S (I : Int) 0 65536 ∧ (readI S (I : Int) 0 65536).1 = 0 ∧ (U.at (I : Int)).body = (S.at (I : Int)).body ∧ (readI S (I : Int) 0 65536).2 ≤ 65536 := by
  unfold readI
  rw [fileE_of h1 h2 hk, fileE_of h1 h2 hu, if_neg (by decide), if_neg (by decide), at_nat, at_nat, hb]
  refine ⟨rfl, ?_, rfl, ?_⟩
  · unfold bl.readR; rw [if_neg (by decide)]
  · unfold bl.readR; rw [if_neg (by decide)]; exact Nat.le_trans (Nat.min_le_left _ _) (by decide)
/-- A row of bytes is kept where its block is. -/
theorem row_same {w w' : World} {lo n c : Nat} {A : Option Addr} {f : Nat → UInt8} {X : Nat → Prop} (h : bl.Row w lo A n c f) (hs : Same X w w') (hX : ∀ b, lo ≤ b → b < w.heap.size → X b) : bl.Row w' lo A n c f := by
  refine ⟨h.1, ?_⟩
  rcases h.2 with h0 | ⟨g, hg, e, hc⟩
  · exact .inl h0
  · exact .inr ⟨g, hg, e, (hs g (hX g hg (Array.getElem?_eq_some_iff.1 hc).1)).trans hc⟩
theorem row_below {w w' : World} {lo n c : Nat} {A : Option Addr} {f : Nat → UInt8} (h : bl.Row w lo A n c f) (hb : Below w.heap.size w w') : bl.Row w' lo A n c f :=
  row_same (X := fun b => b < w.heap.size) h (fun b h1 => hb.block b h1) (fun b _ h2 => h2)
end Go.Proofs.YtnnaoldpacbagaaGreat.cb
end
