/- A branch that the call made: what each of its functions makes of it. Acts that came in, opened; the row's last step. The calls that the law looks at first, as mathematics. -/
import Derived.Test.YtlelnpckbcpkkaaGreatZk
import Derived.ProofKit
import Derived.ChangeSlices
import Derived.SliceStrings
import Derived.Deep.Slices
import Derived.Deep.Fields
import Derived.Lib.SmallJoins
import Derived.OpenShut
import Derived.ChangeSame
namespace Go.Proofs.YtlelnpckbcpkkaaGreat.cb
open Go.RowKit
open Go.Proofs.YtlelnpckbcpkkaaGreat.qu (KN ins QL)
open Go.Proofs.YtlelnpckbcpkkaaGreat.dn (Du En lget lset ldel getV nerr dotB Sorted RetV)
open Go.Proofs.YtlelnpckbcpkkaaGreat.bl (AB Bod BodC StoC Only Pq cut cutR wr WR U8)
open Go.Proofs.YtlelnpckbcpkkaaGreat.br
set_option linter.unusedVariables false
set_option linter.unusedSimpArgs false

/-! ### holds -/
def HB (S : BS) (n : Int) : Prop := ∀ k, (S.ino k).holds ≤ n
theorem HB.upd {S : BS} {n : Int} (h : HB S n) {k : Nat} {x : Ino} {u : Nat} (hx : x.holds ≤ n) : HB ⟨upd S.ino k x, u⟩ n := fun j => by
  show (br.upd S.ino k x j).holds ≤ n
  by_cases e : j = k
  · subst e; rw [upd_same]; exact hx
  · rw [upd_other _ _ e]; exact h j
theorem HB.put {S : BS} {n : Int} (h : HB S n) {i : Int} {x : Ino} (hx : x.holds ≤ n) : HB (S.put i x) n := h.upd hx
theorem HB.putDir {S : BS} {n : Int} (h : HB S n) (d : Int) (L : List En) : HB (S.putDir d L) n := h.upd (h d.toNat)
theorem HB.less {S : BS} {n : Int} (h : HB S n) (i : Int) (dl dh : Int) (h0 : 0 ≤ dh) (hn : 0 ≤ n) : HB (S.less i dl dh) n := by
  unfold BS.less
  dsimp only
  split
  · exact h.upd (by show (0 : Int) ≤ n; exact hn)
  · exact h.upd (by show (S.at i).holds - dh ≤ n; have : (S.at i).holds ≤ n := h i.toNat; omega)
theorem HB.make {S : BS} {n : Int} (h : HB S n) (hn : 0 ≤ n) (d : Int) (s : ByteArray) (k : Int) (t : ByteArray) : HB (S.make d s k t).2 n := by
  unfold BS.make
  split
  · exact h
  · split
    · exact h
    · dsimp only
      split
      · exact h
      · exact (h.put (by exact hn)).putDir _ _
theorem HB.link {S : BS} {n : Int} (h : HB S n) (d : Int) (s : ByteArray) (i : Int) : HB (S.link d s i).2 n := by
  unfold BS.link
  split
  · exact h
  · split
    · exact h
    · split
      · exact h
      · split
        · exact h
        · exact (h.put (by exact h i.toNat)).putDir _ _
theorem HB.drop {S : BS} {n : Int} (h : HB S n) (hn : 0 ≤ n) (d : Int) (s : ByteArray) (i : Int) : HB (S.drop d s i) n := (h.putDir _ _).less _ _ _ (by decide) hn
theorem HB.unlink {S : BS} {n : Int} (h : HB S n) (hn : 0 ≤ n) (d : Int) (s : ByteArray) : HB (S.unlink d s).2 n := by
  unfold BS.unlink
  split
  · exact h
  · split
    · exact h
    · split
      · exact h
      · exact h.drop hn _ _ _
theorem HB.rmdir {S : BS} {n : Int} (h : HB S n) (hn : 0 ≤ n) (d : Int) (s : ByteArray) : HB (S.rmdir d s).2 n := by
  unfold BS.rmdir
  split
  · exact h
  · split
    · exact h
    · split
      · exact h
      · split
        · exact h
        · exact h.drop hn _ _ _
theorem HB.move {S : BS} {n : Int} (h : HB S n) (d : Int) (s : ByteArray) (t : Int) (u : ByteArray) (i : Int) : HB (S.move d s t u i) n := by
  unfold BS.move
  dsimp only
  split
  · exact ((h.putDir _ _).putDir _ _).put (by exact (((h.putDir _ _).putDir _ _) i.toNat))
  · exact (h.putDir _ _).putDir _ _
theorem HB.rename {S : BS} {n : Int} (h : HB S n) (hn : 0 ≤ n) (d : Int) (s : ByteArray) (t : Int) (u : ByteArray) : HB (S.rename d s t u).2 n := by
  unfold BS.rename
  split
  · exact h
  · split
    · exact h
    · split
      · exact h
      · split
        · exact h
        · dsimp only
          split
          · exact h
          · split
            · exact h.move _ _ _ _ _
            · split
              · exact h
              · split
                · exact h
                · split
                  · exact h
                  · split
                    · exact h
                    · exact (h.drop hn _ _ _).move _ _ _ _ _
theorem HB.hold {S : BS} {n : Int} (h : HB S n) (i : Int) : HB (S.hold i).2 (n + 1) := by
  have h' : HB S (n + 1) := fun k => by have := h k; omega
  unfold BS.hold
  split
  · exact h'
  · exact h'.put (by show (S.at i).holds + 1 ≤ n + 1; have : (S.at i).holds ≤ n := h i.toNat; omega)
theorem HB.release {S : BS} {n : Int} (h : HB S n) (hn : 0 ≤ n) (i : Int) : HB (S.release i).2 n := by
  unfold BS.release
  split
  · exact h
  · split
    · exact h
    · exact h.less _ _ _ (by decide) hn
theorem HB.mark {S : BS} {n : Int} (h : HB S n) (i m : Int) : HB (S.mark i m).2 n := by
  unfold BS.mark
  split
  · exact h
  · exact h.put (by exact h i.toNat)
theorem HB.cutI {S : BS} {n : Int} (h : HB S n) (i off : Int) : HB (S.cutI i off).2 n := by
  unfold BS.cutI
  split
  · exact h
  · exact h.upd (by exact h i.toNat)
theorem HB.wrote {S : BS} {n : Int} (h : HB S n) (i off : Int) (p : Nat) (f : Nat → UInt8) : HB (S.wrote i off p f) n := h.upd (by exact h i.toNat)
theorem HB.mono {S : BS} {n m : Int} (h : HB S n) (hm : n ≤ m) : HB S m := fun k => by have := h k; omega
theorem HB.fresh : HB fresh 0 := fun k => by rw [fresh_ino]; split <;> exact Int.le_refl _

theorem cut_ok {b : AB} (h : b.Ok) (off : Int) : (cut b off).Ok := by
  unfold cut
  split
  · refine ⟨by show off.toNat ≤ 65536; omega, fun k hk => ?_, fun i hi => ?_⟩
    · have : (b.th k && decide (16 * k < off.toNat)) = true := hk
      simp only [Bool.and_eq_true, decide_eq_true_eq] at this
      exact this.2
    · show (if i < off.toNat then b.dat i else 0) = 0
      rw [if_neg (by have : off.toNat ≤ i := hi; omega)]
  · exact h
theorem Good_cutI {S : BS} {room : Nat} (h : br.Good S room) (i off : Int) : br.Good (S.cutI i off).2 room := by
  unfold BS.cutI
  by_cases h1 : S.fileE i = 0
  · rw [if_neg (by omega)]
    obtain ⟨I, rfl, i1, i2, hk⟩ := fileE_ok h1
    have hb := h.1.body I
    have hn := bl.cut_n (S.ino I).body off
    have := (Good_body h I).1
    have hr := h.1.room
    show br.Good ⟨upd S.ino ((I : Int)).toNat { S.at (I : Int) with body := cut (S.at (I : Int)).body off }, _⟩ room
    rw [at_nat, Int.toNat_natCast]
    exact h.turn hk (cut_ok hb off) (by omega)
  · rw [if_pos h1]; exact h
theorem Good_wr {S S' : BS} {room : Nat} {i off : Int} {len p : Nat} {f : Nat → UInt8} {err : Int} (h : br.Good S room) (hw : WrI S room i off len f p err S') : br.Good S' room := by
  rcases hw with ⟨_, _, _, rfl⟩ | ⟨h1, _, h3, h4, rfl⟩
  · exact h
  · obtain ⟨I, rfl, i1, i2, hk⟩ := fileE_ok h1
    unfold BS.wrote
    rw [at_nat] at h3 h4 ⊢
    rw [Int.toNat_natCast]
    exact h.turn hk h4 h3

/-! ### the state -/
/-- A branch that the call made behind w0; the blocks X are not its. -/
def BrX (w0 w : World) (P : Nat) (X : Nat → Prop) (S : BS) (room T : Nat) : Prop :=
  ∃ st qb qo pl tag Tq, CB w P w0.heap.size st qb qo pl tag S room (freeL S) Tq ∧ Tq ≤ 199 + T ∧ br.Good S room ∧ room ≤ 65536 ∧ HB S T ∧ Below w0.heap.size w0 w ∧ ∀ b, X b → b < w.heap.size ∧ tag b = 0
abbrev Same (X : Nat → Prop) (w w' : World) : Prop := dn.Same X w w'
abbrev No : Nat → Prop := fun _ => False
section
variable {w0 w w' : World} {P room T : Nat} {X : Nat → Prop} {S : BS}
theorem BrX.bel (h : BrX w0 w P X S room T) : Below w0.heap.size w0 w := by obtain ⟨_, _, _, _, _, _, _, _, _, _, _, h, _⟩ := h; exact h
theorem BrX.good (h : BrX w0 w P X S room T) : br.Good S room := by obtain ⟨_, _, _, _, _, _, _, _, h, _⟩ := h; exact h
theorem BrX.below (h : BrX w0 w P X S room T) (hb : Below w.heap.size w w') : BrX w0 w' P X S room T := by
  obtain ⟨st, qb, qo, pl, tag, Tq, h1, h2, h3, h4, h5, h6, h7⟩ := h
  exact ⟨st, qb, qo, pl, tag, Tq, h1.below hb, h2, h3, h4, h5, h6.trans (hb.mono h6.size), fun b hx => ⟨Nat.lt_of_lt_of_le (h7 b hx).1 hb.size, (h7 b hx).2⟩⟩
theorem BrX.drew (h : BrX w0 w P X S room T) : BrX w0 w.drew P X S room T := h.below (Below.refl _ _).drew
theorem BrX.forget (h : BrX w0 w P X S room T) : BrX w0 w P No S room T := by
  obtain ⟨st, qb, qo, pl, tag, Tq, h1, h2, h3, h4, h5, h6, h7⟩ := h
  exact ⟨st, qb, qo, pl, tag, Tq, h1, h2, h3, h4, h5, h6, fun _ h => h.elim⟩
theorem BrX.sub (h : BrX w0 w P X S room T) {Y : Nat → Prop} (hy : ∀ b, Y b → X b) : BrX w0 w P Y S room T := by
  obtain ⟨st, qb, qo, pl, tag, Tq, h1, h2, h3, h4, h5, h6, h7⟩ := h
  exact ⟨st, qb, qo, pl, tag, Tq, h1, h2, h3, h4, h5, h6, fun b hb => h7 b (hy b hb)⟩
/-- What lies behind all that there was, and what lay below the call's beginning, is not the branch's. -/
theorem BrX.over (h : BrX w0 w P X S room T) (hb : Below w.heap.size w w') : BrX w0 w' P (fun b => X b ∨ (w.heap.size ≤ b ∧ b < w'.heap.size) ∨ b < w0.heap.size) S room T := by
  have h' := h.below hb
  obtain ⟨st, qb, qo, pl, tag, Tq, h1, h2, h3, h4, h5, h6, h7⟩ := h
  refine ⟨st, qb, qo, pl, tag, Tq, h1.below hb, h2, h3, h4, h5, h'.bel, fun b hx => ?_⟩
  rcases hx with hx | ⟨h8, h9⟩ | hx
  · exact ⟨Nat.lt_of_lt_of_le (h7 b hx).1 hb.size, (h7 b hx).2⟩
  · exact ⟨h9, h1.hi b h8⟩
  · exact ⟨Nat.lt_of_lt_of_le hx (Nat.le_trans h6.size hb.size), h1.lo b hx⟩
theorem BrX.lt (h : BrX w0 w P X S room T) : P < w.heap.size ∧ w0.heap.size ≤ P := by obtain ⟨_, _, _, _, _, _, h, _⟩ := h; exact h.plt
/-- From a function's contract to the state. -/
theorem BrX.next {st qb : Nat} {qo : Option Nat} {pl : Nat → Pl} {tag : Nat → Nat} {Tq : Nat} {S' : BS} {v : Value} {e : Ending} (h1 : CB w P w0.heap.size st qb qo pl tag S room (freeL S) Tq) (h2 : Tq ≤ 199 + T) (h4 : room ≤ 65536) (h6 : Below w0.heap.size w0 w) (h7 : ∀ b, X b → b < w.heap.size ∧ tag b = 0)
    (hx : RetG w P w0.heap.size st qb tag v S' room Tq e w') (hG : br.Good S' room) (hH : HB S' ((T : Int) + 1)) : e = .returned v ∧ BrX w0 w' P X S' room (T + 1) ∧ Same X w w' := by
  obtain ⟨he, qo', pl', tag', T', hT, k1, k2⟩ := hx
  refine ⟨he, ⟨st, qb, qo', pl', tag', T', k1, by omega, hG, h4, by simpa using hH, ?_, fun b hb => ?_⟩, fun b hb => ?_⟩
  · exact h6.trans ⟨k2.o.os, k2.o.tape, k2.o.output, k2.o.size, fun k hk => k2.o.block k (Nat.lt_of_lt_of_le hk h6.size) (by rw [h1.lo k hk]; simp)⟩
  · exact ⟨Nat.lt_of_lt_of_le (h7 b hb).1 k2.o.size, by rw [k2.tg b (h7 b hb).1]; exact (h7 b hb).2⟩
  · exact k2.o.block b (h7 b hb).1 (by rw [(h7 b hb).2]; simp)
theorem x_make (h : BrX w0 w P X S room T) (hT : T ≤ 1000) (d : Int) (s : ByteArray) (k : Int) (t : ByteArray) (hm : s.size ≤ 9223372036854775807) (hmt : t.size ≤ 9223372036854775807) :
    Calls Tryz.prog 28 #[Pq P, .int .i64 d, .string s, .int .i64 k, .string t] w (fun e w' => e = .returned (.tuple #[.int .i64 (S.make d s k t).1.1, .int .i64 (S.make d s k t).1.2]) ∧ BrX w0 w' P X (S.make d s k t).2 room (T + 1) ∧ Same X w w') := by
  obtain ⟨st, qb, qo, pl, tag, Tq, h1, h2, h3, h4, h5, h6, h7⟩ := h
  exact (make_any h1 h3 (by omega) d s k t hm hmt).mono fun _ _ hx => BrX.next h1 h2 h4 h6 h7 hx (h3.make d s k t) ((h5.make (by omega) d s k t).mono (by omega))
theorem x_link (h : BrX w0 w P X S room T) (d : Int) (s : ByteArray) (i : Int) (hm : s.size ≤ 9223372036854775807) :
    Calls Tryz.prog 29 #[Pq P, .int .i64 d, .string s, .int .i64 i] w (fun e w' => e = .returned (.int .i64 (S.link d s i).1) ∧ BrX w0 w' P X (S.link d s i).2 room (T + 1) ∧ Same X w w') := by
  obtain ⟨st, qb, qo, pl, tag, Tq, h1, h2, h3, h4, h5, h6, h7⟩ := h
  exact (link_any h1 h3 d s i hm).mono fun _ _ hx => BrX.next h1 h2 h4 h6 h7 hx (h3.link d s i) ((h5.link d s i).mono (by omega))
theorem x_unlink (h : BrX w0 w P X S room T) (hT : T ≤ 1000) (d : Int) (s : ByteArray) :
    Calls Tryz.prog 30 #[Pq P, .int .i64 d, .string s] w (fun e w' => e = .returned (.int .i64 (S.unlink d s).1) ∧ BrX w0 w' P X (S.unlink d s).2 room (T + 1) ∧ Same X w w') := by
  obtain ⟨st, qb, qo, pl, tag, Tq, h1, h2, h3, h4, h5, h6, h7⟩ := h
  exact (unlink_any h1 h3 h4 (by omega) d s).mono fun _ _ hx => BrX.next h1 h2 h4 h6 h7 (RetG.of hx) (h3.unlink d s) ((h5.unlink (by omega) d s).mono (by omega))
theorem x_rmdir (h : BrX w0 w P X S room T) (hT : T ≤ 1000) (d : Int) (s : ByteArray) :
    Calls Tryz.prog 31 #[Pq P, .int .i64 d, .string s] w (fun e w' => e = .returned (.int .i64 (S.rmdir d s).1) ∧ BrX w0 w' P X (S.rmdir d s).2 room (T + 1) ∧ Same X w w') := by
  obtain ⟨st, qb, qo, pl, tag, Tq, h1, h2, h3, h4, h5, h6, h7⟩ := h
  exact (rmdir_any h1 h3 h4 (by omega) d s).mono fun _ _ hx => BrX.next h1 h2 h4 h6 h7 (RetG.of hx) (h3.rmdir d s) ((h5.rmdir (by omega) d s).mono (by omega))
theorem x_rename (h : BrX w0 w P X S room T) (hT : T ≤ 1000) (d : Int) (s : ByteArray) (t : Int) (u : ByteArray) (hm : u.size ≤ 9223372036854775807) :
    Calls Tryz.prog 32 #[Pq P, .int .i64 d, .string s, .int .i64 t, .string u] w (fun e w' => e = .returned (.int .i64 (S.rename d s t u).1) ∧ BrX w0 w' P X (S.rename d s t u).2 room (T + 1) ∧ Same X w w') := by
  obtain ⟨st, qb, qo, pl, tag, Tq, h1, h2, h3, h4, h5, h6, h7⟩ := h
  exact (rename_any h1 h3 h4 (by omega) d s t u hm).mono fun _ _ hx => BrX.next h1 h2 h4 h6 h7 hx (h3.rename d s t u) ((h5.rename (by omega) d s t u).mono (by omega))
theorem x_cut (h : BrX w0 w P X S room T) (i off : Int) :
    Calls Tryz.prog 35 #[Pq P, .int .i64 i, .int .i64 off] w (fun e w' => e = .returned (.int .i64 (S.cutI i off).1) ∧ BrX w0 w' P X (S.cutI i off).2 room (T + 1) ∧ Same X w w') := by
  obtain ⟨st, qb, qo, pl, tag, Tq, h1, h2, h3, h4, h5, h6, h7⟩ := h
  exact (cut_any h1 h3 h4 i off).mono fun _ _ hx => BrX.next h1 h2 h4 h6 h7 hx (Good_cutI h3 i off) ((h5.cutI i off).mono (by omega))
theorem x_hold (h : BrX w0 w P X S room T) (hT : T ≤ 1000) (i : Int) :
    Calls Tryz.prog 36 #[Pq P, .int .i64 i] w (fun e w' => e = .returned (.int .i64 (S.hold i).1) ∧ BrX w0 w' P X (S.hold i).2 room (T + 1) ∧ Same X w w') := by
  obtain ⟨st, qb, qo, pl, tag, Tq, h1, h2, h3, h4, h5, h6, h7⟩ := h
  exact (hold_any h1 h3 (fun k => by have := h5 k; omega) i).mono fun _ _ hx => BrX.next h1 h2 h4 h6 h7 hx (h3.hold i) (h5.hold i)
theorem x_release (h : BrX w0 w P X S room T) (hT : T ≤ 1000) (i : Int) :
    Calls Tryz.prog 37 #[Pq P, .int .i64 i] w (fun e w' => e = .returned (.int .i64 (S.release i).1) ∧ BrX w0 w' P X (S.release i).2 room (T + 1) ∧ Same X w w') := by
  obtain ⟨st, qb, qo, pl, tag, Tq, h1, h2, h3, h4, h5, h6, h7⟩ := h
  exact (release_any h1 h3 h4 (by omega) (fun k => by have := h5 k; omega) i).mono fun _ _ hx => BrX.next h1 h2 h4 h6 h7 hx (h3.release i) ((h5.release (by omega) i).mono (by omega))
theorem x_mark (h : BrX w0 w P X S room T) (i m : Int) :
    Calls Tryz.prog 38 #[Pq P, .int .i64 i, .int .i64 m] w (fun e w' => e = .returned (.int .i64 (S.mark i m).1) ∧ BrX w0 w' P X (S.mark i m).2 room (T + 1) ∧ Same X w w') := by
  obtain ⟨st, qb, qo, pl, tag, Tq, h1, h2, h3, h4, h5, h6, h7⟩ := h
  exact (mark_any h1 h3 i m).mono fun _ _ hx => BrX.next h1 h2 h4 h6 h7 hx (h3.mark i m) ((h5.mark i m).mono (by omega))
theorem x_write (h : BrX w0 w P X S room T) (i off : Int) (A : Option Addr) (len dc : Nat) (f : Nat → UInt8) (hA : ∀ j, j < len → ∃ b o, A = some ⟨b, o, none⟩ ∧ X b ∧ w.cell? ⟨b, o + j, none⟩ = some (U8 (f j))) (hlc : len ≤ dc) (hdc : dc ≤ maxLen) :
    Calls Tryz.prog 33 #[Pq P, .int .i64 i, .int .i64 off, .slice A len dc] w (fun e w' => ∃ p err S', WrI S room i off len f p err S' ∧ e = .returned (.tuple #[.int .i64 (p : Int), .int .i64 err]) ∧ BrX w0 w' P X S' room (T + 1) ∧ Same X w w') := by
  obtain ⟨st, qb, qo, pl, tag, Tq, h1, h2, h3, h4, h5, h6, h7⟩ := h
  refine (write_any h1 h3 h4 i off A len dc f (fun j hj => ?_) hlc hdc).mono fun _ _ ⟨p, err, S', hw, hx⟩ => ⟨p, err, S', hw, BrX.next h1 h2 h4 h6 h7 hx (Good_wr h3 hw) ?_⟩
  · obtain ⟨b, o, e, hX, hc⟩ := hA j hj
    exact ⟨b, o, e, fun hn => hn (h7 b hX).2, (h7 b hX).1, hc⟩
  · rcases hw with ⟨_, _, _, rfl⟩ | ⟨_, _, _, _, rfl⟩
    · exact h5.mono (by omega)
    · exact (h5.wrote i off p f).mono (by omega)
theorem x_read (h : BrX w0 w P X S room T) (i off n : Int) : Calls Tryz.prog 34 #[Pq P, .int .i64 i, .int .i64 off, .int .i64 n] w (ReadI w S i off n) := by
  obtain ⟨st, qb, qo, pl, tag, Tq, h1, h2, h3, _⟩ := h
  exact read_any h1 h3 i off n
theorem x_get (h : BrX w0 w P X S room T) (d : Int) (s : ByteArray) : Calls Tryz.prog 15 #[Pq P, .int .i64 d, .string s] w (RetW w (.tuple #[.int .i64 (S.get d s).1, .int .i64 (S.get d s).2])) := by
  obtain ⟨st, qb, qo, pl, tag, Tq, h1, h2, h3, _⟩ := h
  exact get_any h1 h3 d s
theorem x_kind (h : BrX w0 w P X S room T) (i : Int) : Calls Tryz.prog 23 #[Pq P, .int .i64 i] w (RetI w (S.kindOf i)) := by
  obtain ⟨st, qb, qo, pl, tag, Tq, h1, h2, h3, _⟩ := h
  exact kind_any h1 h3 i
theorem x_parent (h : BrX w0 w P X S room T) (i : Int) : Calls Tryz.prog 25 #[Pq P, .int .i64 i] w (RetI w (S.parentOf i)) := by
  obtain ⟨st, qb, qo, pl, tag, Tq, h1, h2, h3, _⟩ := h
  exact parent_any h1 h3 i
theorem x_marks (h : BrX w0 w P X S room T) (i : Int) : Calls Tryz.prog 40 #[Pq P, .int .i64 i] w (RetI w (S.marksOf i)) := by
  obtain ⟨st, qb, qo, pl, tag, Tq, h1, h2, h3, _⟩ := h
  exact marks_any h1 h3 i
theorem x_stat (h : BrX w0 w P X S room T) (i : Int) : Calls Tryz.prog 26 #[Pq P, .int .i64 i] w (RetW w (statV S i)) := by
  obtain ⟨st, qb, qo, pl, tag, Tq, h1, h2, h3, _⟩ := h
  exact stat_any h1 h3 i
theorem x_target (h : BrX w0 w P X S room T) (i : Int) : Calls Tryz.prog 39 #[Pq P, .int .i64 i] w (fun e w' => e = .returned (.tuple #[.string (S.targetOf i).1, .int .i64 (S.targetOf i).2]) ∧ w' = w) := by
  obtain ⟨st, qb, qo, pl, tag, Tq, h1, h2, h3, _⟩ := h
  exact target_any h1 h3 i
theorem x_all (h : BrX w0 w P X S room T) (i : Int) : Calls Tryz.prog 24 #[Pq P, .int .i64 i] w (fun e w' => ∃ o c, e = .returned (.tuple #[.slice (dn.Ao o) (S.all i).1.length c, .int .i64 (S.all i).2]) ∧ (S.all i).1.length ≤ c ∧ c ≤ maxLen ∧ dn.Sl w' w.heap.size o c (S.all i).1 ∧ Below w.heap.size w w') := by
  obtain ⟨st, qb, qo, pl, tag, Tq, h1, h2, h3, _⟩ := h
  exact all_any h1 h3 i
theorem x_used (h : BrX w0 w P X S room T) : Calls Tryz.prog 19 #[Pq P] w (fun e w' => e = .returned (.int .i64 (S.used : Int)) ∧ w' = w) := by
  obtain ⟨st, qb, qo, pl, tag, Tq, h1, h2, h3, _⟩ := h
  exact used_any h1
theorem x_inodes (h : BrX w0 w P X S room T) : Calls Tryz.prog 20 #[Pq P] w (fun e w' => e = .returned (.int .i64 (S.count 200 : Int)) ∧ w' = w) := by
  obtain ⟨st, qb, qo, pl, tag, Tq, h1, h2, h3, _⟩ := h
  have hl := freeL_length S
  have := inodes_any h1 (freeL_le S)
  rw [show (200 - ((freeL S).length : Int)) = (S.count 200 : Int) by omega] at this
  exact this
theorem x_new (room : Nat) (hr : room ≤ 65536) (hb : Below w0.heap.size w0 w) : Calls Tryz.prog 12 #[.int .i64 (room : Int)] w (fun e w' => ∃ P, e = .returned (Pq P) ∧ BrX w0 w' P (fun b => b < w.heap.size) fresh room 0 ∧ Below w.heap.size w w' ∧ w.heap.size ≤ P) := by
  refine (new_yes room w0.heap.size w hr hb.size).mono ?_
  rintro e w' ⟨P, st, qb, qo, pl, tag, he, h1, h2, h3, h4⟩
  exact ⟨P, he, ⟨st, qb, qo, pl, tag, 199, h1, Nat.le_refl _, Good.fresh room, hr, HB.fresh, hb.trans (h3.mono hb.size), fun b hb' => ⟨Nat.lt_of_lt_of_le hb' h3.size, h2 b hb'⟩⟩, h3, h4⟩
end
end Go.Proofs.YtlelnpckbcpkkaaGreat.cb
namespace Go.Proofs.YtlelnpckbcpkkaaGreat.cb
open Go.ChangeShapes Go.WideShapes Go.ChangeAt Go.RowKit
set_option linter.unusedVariables false
set_option linter.unusedSimpArgs false

section
open Go.Deep
variable {H : Type} {enc : TypeId × Value → H} {P : Program} {w : World} {base : Nat} {spare : Nat → Bool} {held : Bool}
theorem open_slice_fields {t e : TypeId} {fs : Array Field} {fuel : Nat} {cs : List Value} {x : DataW H × List MemPlace} (ht : P.underlying t = some (.slice e)) (he : P.underlying e = some (.struct fs))
    (hone : oneCellFields P fs = true) (hC : P.cellsOf e = fs.size) (h : DataW.trod enc P w base spare held fuel t cs = some x) :
    (cs = [.slice none 0 0]) ∨
    ∃ (a : Addr) (len cap m : Nat), cs = [.slice (some a) len cap] ∧ len ≤ cap ∧ cap ≤ maxLen ∧ len ≤ m ∧
      ∀ i, i < m → ∃ (n : Nat), ∀ (j : Nat) (f : Field), fs[j]? = some f → ∃ (v : Value) (y : DataW H × List MemPlace), w.cell? (a.add (i * fs.size + j)) = some v ∧ DataW.trod enc P w base spare held n f.type [v] = some y := by
  rcases open_slice ht h with h0 | ⟨a, len, cap, m, n, D, Pl, hcs, hb, hl, hm, hmm, hx, hi⟩
  · exact .inl h0.1
  · refine .inr ⟨a, len, cap, m, hcs, hl, hm, by rw [hmm]; split <;> omega, fun i him => ?_⟩
    obtain ⟨cs', hc, ht'⟩ := hi i him
    rw [hC] at hc
    obtain ⟨ys, n', hn', hy, hlen, hyl, hf⟩ := DataW.trod_struct he ht'
    obtain ⟨_, hcl, hat⟩ := World.cells?_some hc
    refine ⟨n', fun j f hj => ?_⟩
    obtain ⟨ho, hk⟩ := hone_of hone j f hj
    have hjl : j < fs.size := (Array.getElem?_eq_some_iff.1 hj).1
    have hcell := hat j hjl
    have hv : cs'[j]? = some (cs'[j]'(by omega)) := List.getElem?_eq_getElem (by omega)
    have h1 := hf j f hj
    rw [ho, hk] at h1
    have hone' : (cs'.drop j).take 1 = [cs'[j]'(by omega)] := by
      rw [List.drop_eq_getElem_cons (by omega)]
      rfl
    rw [hone'] at h1
    have hys : ys[j]? = some (ys[j]'(by omega)) := List.getElem?_eq_getElem (by omega)
    refine ⟨_, _, ?_, h1.trans hys⟩
    rw [← Go.Deep.add_add, hcell, hv]
end

structure Act7 where
  kind : Int
  d : Int
  t : Int
  n : Int
  a : ByteArray
  b : ByteArray
  off : Int
instance : Inhabited Act7 := ⟨⟨0, 0, 0, 0, ⟨#[]⟩, ⟨#[]⟩, 0⟩⟩
/-- In w the slice of n acts at A reads as F. -/
def Acts (w : World) (B : Nat) (A : Option Addr) (n : Nat) (F : Nat → Act7) : Prop := ∀ i, i < n → ∃ b off, A = some ⟨b, off, none⟩ ∧ b < B ∧
  w.cell? ⟨b, off + i * 7, none⟩ = some (.int .i64 (F i).kind) ∧
  w.cell? ⟨b, off + i * 7 + 1, none⟩ = some (.int .i64 (F i).d) ∧
  w.cell? ⟨b, off + i * 7 + 2, none⟩ = some (.int .i64 (F i).t) ∧
  w.cell? ⟨b, off + i * 7 + 3, none⟩ = some (.int .i64 (F i).n) ∧
  w.cell? ⟨b, off + i * 7 + 4, none⟩ = some (.string (F i).a) ∧
  w.cell? ⟨b, off + i * 7 + 5, none⟩ = some (.string (F i).b) ∧
  w.cell? ⟨b, off + i * 7 + 6, none⟩ = some (.int .i64 (F i).off) ∧ (F i).a.size ≤ maxLen ∧ (F i).b.size ≤ maxLen
theorem Acts.below {w w' : World} {B n : Nat} {A : Option Addr} {F : Nat → Act7} (h : Acts w B A n F) (hb : Below B w w') : Acts w' B A n F := fun i hi => by
  obtain ⟨b, off, e, hB, h0, h1, h2, h3, h4, h5, h6, h7, h8⟩ := h i hi
  exact ⟨b, off, e, hB, (hb.cell (p := ⟨b, off + i * 7, none⟩) hB).trans h0, (hb.cell (p := ⟨b, off + i * 7 + 1, none⟩) hB).trans h1, (hb.cell (p := ⟨b, off + i * 7 + 2, none⟩) hB).trans h2, (hb.cell (p := ⟨b, off + i * 7 + 3, none⟩) hB).trans h3, (hb.cell (p := ⟨b, off + i * 7 + 4, none⟩) hB).trans h4, (hb.cell (p := ⟨b, off + i * 7 + 5, none⟩) hB).trans h5, (hb.cell (p := ⟨b, off + i * 7 + 6, none⟩) hB).trans h6, h7, h8⟩
theorem spot_none {w : World} {a : Addr} {v : Value} (h : w.cell? (a.add 0) = some v) : ∃ b off, a = ⟨b, off, none⟩ ∧ b < w.heap.size := by
  obtain ⟨b, off, spot⟩ := a
  have hs : spot = none := by simpa [Addr.add] using World.cell?_spot h
  subst hs
  exact ⟨b, off, rfl, World.block_lt_of_cell? w _ h⟩
set_option maxRecDepth 100000 in
theorem open_acts {H : Type} {enc : TypeId × Value → H} {W : World} {r : Reach} {b0 : Nat} {sp : Nat → Bool} {held : Bool} {v : Value} {d : DataW H} {p : List MemPlace}
    (hv : Value.okWide Tryz.prog W r b0 22 v) (h : DataW.Trod enc Tryz.prog W 0 sp held 22 v d p) :
    ∃ A n c F, v = .slice A n c ∧ (n ≤ c ∧ c ≤ maxLen) ∧ Acts W W.heap.size A n F := by
  obtain ⟨fuel, hf⟩ := h
  have hcells : v.cells.toList = [v] := by
    obtain ⟨A, n, c, rfl⟩ := okWide_slice Tryz.underlying22 hv
    rfl
  rw [hcells] at hf
  rcases open_slice_fields Tryz.underlying22 Tryz.underlying29 (by kernel_rfl) (by kernel_rfl) hf with e | ⟨a, len, cap, m, e, hl, hm, hlm, hi⟩
  · injection e with e
    subst e
    exact ⟨none, 0, 0, fun _ => default, rfl, ⟨Nat.le_refl _, by unfold maxLen; omega⟩, fun i hi => absurd hi (Nat.not_lt_zero _)⟩
  · injection e with e
    subst e
    have hall : ∀ i, ∃ x : Act7, i < len → ∃ b off, (some a : Option Addr) = some ⟨b, off, none⟩ ∧ b < W.heap.size ∧
        W.cell? ⟨b, off + i * 7, none⟩ = some (.int .i64 x.kind) ∧
  W.cell? ⟨b, off + i * 7 + 1, none⟩ = some (.int .i64 x.d) ∧
  W.cell? ⟨b, off + i * 7 + 2, none⟩ = some (.int .i64 x.t) ∧
  W.cell? ⟨b, off + i * 7 + 3, none⟩ = some (.int .i64 x.n) ∧
  W.cell? ⟨b, off + i * 7 + 4, none⟩ = some (.string x.a) ∧
  W.cell? ⟨b, off + i * 7 + 5, none⟩ = some (.string x.b) ∧
  W.cell? ⟨b, off + i * 7 + 6, none⟩ = some (.int .i64 x.off) ∧ x.a.size ≤ maxLen ∧ x.b.size ≤ maxLen := by
      intro i
      by_cases hil : i < len
      · obtain ⟨n0, hj0⟩ := hi 0 (by omega)
        obtain ⟨_, _, c00, _⟩ := hj0 0 _ rfl
        obtain ⟨b, off, rfl, hb⟩ := spot_none (by simpa using c00)
        obtain ⟨n, hj⟩ := hi i (by omega)
        obtain ⟨v0, y0, c0, t0⟩ := hj 0 _ rfl
        obtain ⟨v1, y1, c1, t1⟩ := hj 1 _ rfl
        obtain ⟨v2, y2, c2, t2⟩ := hj 2 _ rfl
        obtain ⟨v3, y3, c3, t3⟩ := hj 3 _ rfl
        obtain ⟨v4, y4, c4, t4⟩ := hj 4 _ rfl
        obtain ⟨v5, y5, c5, t5⟩ := hj 5 _ rfl
        obtain ⟨v6, y6, c6, t6⟩ := hj 6 _ rfl
        obtain ⟨z0, e0, _⟩ := DataW.trod_int Tryz.underlying3 t0
        obtain ⟨z1, e1, _⟩ := DataW.trod_int Tryz.underlying3 t1
        obtain ⟨z2, e2, _⟩ := DataW.trod_int Tryz.underlying3 t2
        obtain ⟨z3, e3, _⟩ := DataW.trod_int Tryz.underlying3 t3
        obtain ⟨z4, e4, _, hz4⟩ := DataW.trod_string Tryz.underlying9 t4
        obtain ⟨z5, e5, _, hz5⟩ := DataW.trod_string Tryz.underlying9 t5
        obtain ⟨z6, e6, _⟩ := DataW.trod_int Tryz.underlying2 t6
        injection e0 with e0
        subst e0
        injection e1 with e1
        subst e1
        injection e2 with e2
        subst e2
        injection e3 with e3
        subst e3
        injection e4 with e4
        subst e4
        injection e5 with e5
        subst e5
        injection e6 with e6
        subst e6
        rw [Go.WideShapes.add_plain] at c0 c1 c2 c3 c4 c5 c6
        exact ⟨⟨z0, z1, z2, z3, z4, z5, z6⟩, fun _ => ⟨b, off, rfl, hb, by simpa using c0, by simpa [Nat.add_assoc] using c1, by simpa [Nat.add_assoc] using c2, by simpa [Nat.add_assoc] using c3, by simpa [Nat.add_assoc] using c4, by simpa [Nat.add_assoc] using c5, by simpa [Nat.add_assoc] using c6, hz4, hz5⟩⟩
      · exact ⟨default, fun h => absurd h hil⟩
    obtain ⟨F, hF⟩ := Classical.axiomOfChoice hall
    exact ⟨some a, len, cap, F, rfl, ⟨hl, hm⟩, hF⟩

/-- The row's last step: the results read, the arguments read as they did, and below the heap's first end nothing has turned. -/
theorem law_post {H : Type} {enc : TypeId × Value → H} {P : Program} {f : Func} {s : ChangeSpec} {apart fresh handsOn : Bool} {W W' : World} {args : Array Value} {v : Value} {ds gs : List (DataW H)} {before pa pv : List MemPlace}
    (hW : DataW.Whole enc P f.params.toList s.vars apart W args.toList ds gs before)
    (hres : ∀ (b : Nat) (sp : Nat → Bool) (hd : Bool), DataW.TrodAll enc P W' b sp hd f.resultTypes.toList (v.resultList f.resultTypes.size) (s.fn H (ds ++ gs)).results [])
    (hargs : ∀ sp : Nat → Bool, (∀ p ∈ before, sp p.block = true) → DataW.TrodAll enc P W' 0 sp true f.params.toList args.toList (s.fn H (ds ++ gs)).args pa)
    (hvars : ∀ sp : Nat → Bool, (∀ p ∈ before, sp p.block = true) → DataW.TrodVars enc P W' sp s.vars (s.fn H (ds ++ gs)).vars pv)
    (hps : before = pa ++ pv) (hb : Below W.heap.size W W')
    (_hok : ∀ (j : Nat) (t : TypeId) (r : Value), f.resultTypes[j]? = some t → (v.resultList f.resultTypes.size)[j]? = some r → Value.okWide P W' .any 0 t r) :
    s.post enc P f apart fresh handsOn false W args v W' := by
  have hlt : ∀ p ∈ before, p.block < W.heap.size := fun p hp => hW.lt p hp
  have hold : ∀ p ∈ before, (fun b => decide (b < W.heap.size)) p.block = true := fun p hp => by simpa using hlt p hp
  refine ⟨ds, gs, before, [], pa, pv, hW, hres _ _ _, hargs _ hold, hvars _ hold, World.keptBut_mono (fun p hp => ⟨hp, ?_⟩) (hb.frame (· ∈ before)), fun h => by cases h⟩
  rw [hps, List.mem_append] at hp
  exact Or.inr hp

/-- An argument reads as it did, in any later world that is the same below the heap's first end. -/
theorem arg_stays {H : Type} {enc : TypeId × Value → H} {W W' : World} {v : Value} {d : DataW H} {ps before : List MemPlace} {sp : Nat → Bool}
    (h : DataW.Trod enc Tryz.prog W 0 (fun _ => true) true 22 v d ps) (hb : Below W.heap.size W W') (hsub : ∀ x ∈ ps, x ∈ before) (hlt : ∀ x ∈ before, x.block < W.heap.size) (hsp : ∀ x ∈ before, sp x.block = true) (hlaid : laidOutB Tryz.prog = true) :
    DataW.Trod enc Tryz.prog W' 0 sp true 22 v d ps :=
  WideElems.Trod_stays hlaid (by kernel_rfl) (of_decide_eq_true (by kernel_rfl)) h (fun x hx => hb.same (hlt x (hsub x hx))) (fun x hx => hsp x (hsub x hx))
end Go.Proofs.YtlelnpckbcpkkaaGreat.cb
namespace Go.Proofs.YtlelnpckbcpkkaaGreat.cb
open Go.RowKit
open Go.Proofs.YtlelnpckbcpkkaaGreat.br
open Go.Proofs.YtlelnpckbcpkkaaGreat.bl (AB IsStop okW WR)
set_option linter.unusedVariables false

abbrev tA : ByteArray := ⟨#[97]⟩
abbrev tB : ByteArray := ⟨#[98]⟩
abbrev tC : ByteArray := ⟨#[99]⟩
abbrev tT : ByteArray := ⟨#[116]⟩
abbrev tE : ByteArray := ⟨#[]⟩
def wF : Nat → UInt8 := fun i => if i = 0 then 120 else 121
def A1 : BS := (fresh.make 1 tA 2 tE).2
def A2 : BS := (A1.make 2 tB 1 tE).2
def A3 : BS := A2.wrote 3 0 2 wF
def A4 : BS := (A3.rename 2 tB 1 tB).2
def A5 : BS := (A4.rmdir 1 tA).2
def A6 : BS := (A5.make 1 tC 3 tT).2
def A7 : BS := (A6.hold 3).2
def A8 : BS := (A7.release 3).2
def A9 : BS := (A8.mark 3 4).2
instance (b : AB) (used room s q : Nat) : Decidable (okW b used room s q) := by unfold okW; infer_instance
theorem f1 : (fresh.make 1 tA 2 tE).1 = (2, 0) := by decide +kernel
theorem f2 : (A1.make 2 tB 1 tE).1 = (3, 0) := by decide +kernel
theorem f3 : A2.fileE 3 = 0 := by decide +kernel
theorem f3b : (A2.at 3).body.n = 0 := by decide +kernel
theorem f3c : A2.used = 0 := by decide +kernel
theorem f3s : IsStop (A2.at 3).body 0 9 0 2 2 := ⟨by decide, by decide +kernel, Or.inl rfl⟩
theorem f4 : (A3.rename 2 tB 1 tB).1 = 0 := by decide +kernel
theorem f5 : (A4.rmdir 1 tA).1 = 0 := by decide +kernel
theorem f6 : (A5.make 1 tC 3 tT).1 = (2, 0) := by decide +kernel
theorem f7 : A6.targetOf 2 = (tT, 0) := by decide +kernel
theorem f8 : A6.stat 3 = ((1, 2, 1), 0) := by decide +kernel
theorem f9 : (A6.all 1).1.length = 2 ∧ (A6.all 1).2 = 0 := by decide +kernel
theorem f10 : A6.get 1 tB = (3, 0) := by decide +kernel
theorem f11 : A6.used = 1 := by decide +kernel
theorem f12 : A6.count 200 = 3 := by decide +kernel
theorem f13 : A6.kindOf 2 = 3 := by decide +kernel
theorem f14 : A6.parentOf 1 = 1 := by decide +kernel
theorem f15 : (A6.hold 3).1 = 0 := by decide +kernel
theorem f16 : (A7.release 3).1 = 0 := by decide +kernel
theorem f17 : (A8.mark 3 4).1 = 0 := by decide +kernel
theorem f18 : A9.marksOf 3 = 4 := by decide +kernel
theorem f19 : (A9.unlink 1 tB).1 = 0 := by decide +kernel
theorem eq61 (w : World) : (binOp .eql 61 (.agg #[.int .i64 1, .int .i64 2, .int .i64 1]) (.agg #[.int .i64 1, .int .i64 2, .int .i64 1])).run Tryz.prog w = .ok (.bool true) w := by kernel_rfl
end Go.Proofs.YtlelnpckbcpkkaaGreat.cb
