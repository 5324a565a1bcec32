/- Links are names: a map of the call's own that counts, a row of entries beside it, the sums. What is made, written and taken away again leaves no trace. -/
import Derived.Test.YtnnaoldpacbagaaGreatZ20
import Derived.Maps.Own
import Derived.Maps.OwnOps
import Derived.Maps.Views
section
namespace Go.Proofs.YtnnaoldpacbagaaGreat.cb
open Go.RowKit
open Go.Maps (Keyed IsMap isMap_empty atKey_put_same atKey_put_other int_keyed keyOf_int_mk)
open Go.Proofs.YtnnaoldpacbagaaGreat.br
open Go.Proofs.YtnnaoldpacbagaaGreat.bl (Only Pq)
open Go.Proofs.YtnnaoldpacbagaaGreat.dn (En)
set_option linter.unusedVariables false
set_option linter.unusedSimpArgs false

def updI {α : Type} (f : Int → α) (a : Int) (b : α) : Int → α := fun x => if x = a then b else f x
def Wf (a : Int) : Prop := (Lit.int .i64 a).wf = true
theorem wf_small {a : Int} (h1 : -1000000 ≤ a) (h2 : a ≤ 1000000) : Wf a := by
  unfold Wf
  simp only [Lit.wf, Bool.and_eq_true, decide_eq_true_eq]
  refine ⟨Int.le_trans (by decide) h1, Int.le_trans h2 (by decide)⟩
theorem only_grown {w w' : World} {B : Nat} (h : w.grownBy w' (some B)) : Only (fun b => b = B) w w' := ⟨h.os, h.tape, h.output, h.size, fun k hk hF => h.block k hk (fun e => hF (by injection e))⟩
theorem BrX.only {w0 w w' : World} {P room T : Nat} {X F : Nat → Prop} {S : BS} (h : BrX w0 w P X S room T) (ho : Only F w w') (hF : ∀ b, F b → X b) (hl : ∀ b, F b → w0.heap.size ≤ b) : BrX w0 w' P X S room T := by
  obtain ⟨st, qb, qo, pl, tag, Tq, h1, h2, h3, h4, h5, h6, h7⟩ := h
  exact ⟨st, qb, qo, pl, tag, Tq, h1.only ho (fun b hb => (h7 b (hF b hb)).2), h2, h3, h4, h5, h6.trans ⟨ho.os, ho.tape, ho.output, ho.size, fun k hk => ho.block k (Nat.lt_of_lt_of_le hk h6.size) (fun hf => by have := hl k hf; omega)⟩,
    fun b hb => ⟨Nat.lt_of_lt_of_le (h7 b hb).1 ho.size, (h7 b hb).2⟩⟩
/-- A row of entries beside a block M. -/
def RowC (w : World) (A : Option Addr) (M : Nat) (L : List En) : Prop :=
  ∀ j x, L[j]? = some x → ∃ g, A = some ⟨g, 0, none⟩ ∧ g ≠ M ∧ g < w.heap.size ∧ w.cell? ⟨g, j * 2, none⟩ = some (.string x.1) ∧ w.cell? ⟨g, j * 2 + 1, none⟩ = some (.int .i64 x.2)
theorem RowC.only {w w' : World} {A : Option Addr} {M : Nat} {L : List En} (h : RowC w A M L) (ho : Only (fun b => b = M) w w') : RowC w' A M L := fun j x hx => by
  obtain ⟨g, e, h1, h2, h3, h4⟩ := h j x hx
  have hb := ho.block g h2 h1
  exact ⟨g, e, h1, Nat.lt_of_lt_of_le h2 ho.size, (World.cell?_of_block (a := ⟨g, j * 2, none⟩) hb).trans h3, (World.cell?_of_block (a := ⟨g, j * 2 + 1, none⟩) hb).trans h4⟩
theorem RowC.below {w w' : World} {A : Option Addr} {M : Nat} {L : List En} (h : RowC w A M L) (hb : Below w.heap.size w w') : RowC w' A M L := h.only ((Only.of_below hb (F := fun _ => False)).mono (fun _ h => h.elim))

/-! ### the sums -/
/-- How many names lead to a: the root's, those of the inodes up to i, those of L. -/
def nmF (S : BS) (i : Nat) (L : List En) : Int → Int := fun a => (if a = 1 then 1 else 0) + (S.names a i : Int) + (names a L : Int)
theorem names_len (a : Int) (L : List En) : names a L ≤ L.length := List.length_filter_le _ _
theorem nmF_step (S : BS) (i : Nat) {L : List En} {j : Nat} {x : En} (hx : L[j]? = some x) : updI (nmF S i (L.take j)) x.2 (nmF S i (L.take j) x.2 + 1) = nmF S i (L.take (j + 1)) := by
  funext a
  unfold updI nmF
  rw [List.take_add_one, hx, names_append, Option.toList_some, names_cons, names_nil]
  generalize hg : ((if a = 1 then 1 else 0 : Int)) = g
  by_cases e : a = x.2
  · subst e
    rw [if_pos (rfl : x.2 = x.2), if_pos (rfl : x.2 = x.2), hg]
    omega
  · rw [if_neg e, if_neg (fun h : x.2 = a => e h.symm)]
    omega
theorem nmF_next (S : BS) (k : Nat) : nmF S k (S.ino (k + 1)).dir = nmF S (k + 1) [] := by
  funext a
  unfold nmF
  have : S.names a (k + 1) = S.names a k + names a (S.ino (k + 1)).dir := rfl
  rw [this, names_nil]
  omega
theorem nmF_none (S : BS) (k : Nat) (h : (S.ino (k + 1)).dir = []) : nmF S k [] = nmF S (k + 1) [] := by rw [← nmF_next, h]
theorem names_bound {S : BS} {room : Nat} (h : Inv S room) (a : Int) (k : Nat) : S.names a k ≤ 4000 * k := by
  induction k with
  | zero => exact Nat.le_refl _
  | succ k ih =>
    have e : S.names a (k + 1) = S.names a k + names a (S.ino (k + 1)).dir := rfl
    have h1 := names_len a (S.ino (k + 1)).dir
    have h2 := h.dirLen (k + 1)
    omega
theorem count_next (S : BS) (k : Nat) : S.count (k + 1) = S.count k + if (S.ino (k + 1)).kind ≠ 0 then 1 else 0 := rfl
theorem count_le (S : BS) (k : Nat) : S.count k ≤ k := by
  induction k with
  | zero => exact Nat.le_refl _
  | succ k ih => rw [count_next]; split <;> omega
theorem start_f (S : BS) : updI (fun _ => (0 : Int)) 1 1 = nmF S 0 [] := by
  funext a
  unfold updI nmF
  have : S.names a 0 = 0 := rfl
  rw [this, names_nil]
  split <;> rfl
theorem links_f {S : BS} {room : Nat} (h : Inv S room) (k : Nat) (h1 : 1 ≤ k) (h2 : k ≤ 200) : nmF S 200 [] (k : Int) = (S.ino k).links := by
  unfold nmF
  rw [h.links k h1 h2, names_nil]
  by_cases e : k = 1
  · subst e; rw [if_pos (show ((1 : Nat) : Int) = 1 from rfl), if_pos rfl]; omega
  · rw [if_neg (show ¬ ((k : Int) = 1) by omega), if_neg e]; omega
theorem all_dir {S : BS} {I : Nat} (h1 : 1 ≤ I) (h2 : I ≤ 200) (hk : (S.ino I).kind = 2) : S.all (I : Int) = ((S.ino I).dir, 0) := by
  unfold BS.all
  have hd : S.dirE (I : Int) false = 0 := by
    unfold BS.dirE
    rw [isI_of h1 h2 (by rw [hk]; decide), if_neg (by decide), at_nat, if_neg (by rw [hk]; decide), if_neg (fun e => by cases e.1)]
  rw [hd, if_neg (by decide), at_nat]
theorem all_no {S : BS} {I : Nat} (h1 : 1 ≤ I) (h2 : I ≤ 200) (h0 : (S.ino I).kind ≠ 0) (hk : (S.ino I).kind ≠ 2) : S.all (I : Int) = ([], 20) := by
  unfold BS.all
  have hd : S.dirE (I : Int) false = 20 := by
    unfold BS.dirE
    rw [isI_of h1 h2 h0, if_neg (by decide), at_nat, if_pos hk]
  rw [hd, if_pos (by decide)]
theorem parent_of {S : BS} {I : Nat} (h1 : 1 ≤ I) (h2 : I ≤ 200) (hk : (S.ino I).kind ≠ 0) : S.parentOf (I : Int) = (S.ino I).parent := by
  unfold BS.parentOf
  rw [if_pos (isI_of h1 h2 hk), at_nat]
/-- An entry's inode: its number, and where it is a directory, its parent. -/
theorem entry_ok {S : BS} {room D : Nat} (hG : br.Good S room) {x : En} (hx : x ∈ (S.ino D).dir) : ∃ I : Nat, x.2 = (I : Int) ∧ 1 ≤ I ∧ I ≤ 200 ∧ (S.ino I).kind ≠ 0 ∧ ((S.ino I).kind = 2 → (S.ino I).parent = (D : Int)) := by
  obtain ⟨_, _, I, e, h1, h2, _, _, h5⟩ := hG.1.entry hx
  refine ⟨I, e, h1, h2, h5, fun hk => ?_⟩
  have := hG.1.up D x hx (by rw [e]; rw [at_nat]; exact hk)
  rw [e, at_nat] at this
  exact this
end Go.Proofs.YtnnaoldpacbagaaGreat.cb
end
section
namespace Go.Proofs.YtnnaoldpacbagaaGreat.cb
open Go.RowKit
open Go.Proofs.YtnnaoldpacbagaaGreat.br
open Go.Proofs.YtnnaoldpacbagaaGreat.dn (En nerr lget lset ldel dotB)
open Go.Proofs.YtnnaoldpacbagaaGreat.bl (AB Pq U8 wr)
set_option linter.unusedVariables false
set_option linter.unusedSimpArgs false

/-- What was made at n in D, with a body b. -/
structure MadeI (S S2 : BS) (D n : Nat) (s : ByteArray) (kind : Int) : Prop where
  d1 : 1 ≤ D
  d2 : D ≤ 200
  hD : (S.ino D).kind = 2
  hl : (S.ino D).links ≠ 0
  hn : lget s (S.ino D).dir = none
  n1 : 1 ≤ n
  n2 : n ≤ 200
  hz : (S.ino n).kind = 0
  ne : n ≠ D
  oth : ∀ k, k ≠ D → k ≠ n → S2.ino k = S.ino k
  eD : S2.ino D = { S.ino D with dir := lset s (n : Int) (S.ino D).dir }
  eN : (S2.ino n).kind = kind ∧ (S2.ino n).links = 1 ∧ (S2.ino n).holds = 0 ∧ (S2.ino n).dir = []
  us : S2.used = S.used + (S2.ino n).body.n
set_option maxRecDepth 10000 in
theorem made_of {S : BS} {room : Nat} (hG : br.Good S room) {d : Int} {s t : ByteArray} {kind : Int} (h : (S.make d s kind t).1.2 = 0) :
    ∃ D n : Nat, d = (D : Int) ∧ (S.make d s kind t).1.1 = (n : Int) ∧ MadeI S (S.make d s kind t).2 D n s kind ∧ ((S.make d s kind t).2.ino n).body = abE := by
  by_cases h1 : S.vacant d s = 0
  · by_cases hb : badKind kind t = true
    · exfalso
      unfold BS.make at h
      rw [if_neg (by omega), if_pos hb] at h
      exact absurd (show (22 : Int) = 0 from h) (by decide)
    · obtain ⟨D, rfl, d1, d2, hD, hl, hg, _⟩ := vacant_ok h1
      have hfs := free_spec S 200 1
      by_cases h2 : 200 < S.free 1 200
      · exfalso
        unfold BS.make at h
        rw [if_neg (by omega), if_neg hb] at h
        dsimp only at h
        rw [if_pos h2] at h
        exact absurd (show (28 : Int) = 0 from h) (by decide)
      · have hz := hfs.2.2.1 (by omega)
        have hf1 := hfs.1
        generalize hn : S.free 1 200 = n at *
        have hnD : n ≠ D := fun e => by rw [e, hD] at hz; cases hz
        have e : S.make (D : Int) s kind t = (((n : Int), 0), (⟨br.upd (br.upd S.ino n (newI kind (D : Int) t)) D { S.ino D with dir := lset s (n : Int) (S.ino D).dir }, S.used⟩ : BS)) := by
          unfold BS.make
          rw [if_neg (by omega), if_neg hb]
          dsimp only
          rw [hn, if_neg h2]
          unfold BS.putDir BS.put
          dsimp only
          rw [Int.toNat_natCast, Int.toNat_natCast]
          show ((_, _), BS.mk (br.upd (br.upd S.ino n (newI kind (D : Int) t)) D { br.upd S.ino n (newI kind (D : Int) t) D with dir := lset s (n : Int) (br.upd S.ino n (newI kind (D : Int) t) D).dir }) S.used) = _
          rw [upd_other _ _ (fun e => hnD e.symm)]
        rw [e]
        have eN : br.upd (br.upd S.ino n (newI kind (D : Int) t)) D { S.ino D with dir := lset s (n : Int) (S.ino D).dir } n = newI kind (D : Int) t := by rw [upd_other _ _ hnD, upd_same]
        refine ⟨D, n, rfl, rfl, ⟨d1, d2, hD, hl, hg, hf1, by omega, hz, hnD, fun k k1 k2 => ?_, ?_, ?_, ?_⟩, ?_⟩
        · show br.upd _ _ _ k = _
          rw [upd_other _ _ k1, upd_other _ _ k2]
        · show br.upd _ _ _ D = _
          rw [upd_same]
        · show (br.upd _ _ _ n).kind = _ ∧ (br.upd _ _ _ n).links = _ ∧ (br.upd _ _ _ n).holds = _ ∧ (br.upd _ _ _ n).dir = _
          rw [eN]; exact ⟨rfl, rfl, rfl, rfl⟩
        · show S.used = S.used + (br.upd _ _ _ n).body.n
          rw [eN]; rfl
        · show (br.upd _ _ _ n).body = _
          rw [eN]; rfl
  · exfalso
    unfold BS.make at h
    rw [if_pos h1] at h
    exact h1 h
set_option maxRecDepth 10000 in
theorem MadeI.wrote {S S2 : BS} {D n : Nat} {s : ByteArray} {kind : Int} (h : MadeI S S2 D n s kind) (hb : (S2.ino n).body = abE) (off : Int) (p : Nat) (f : Nat → UInt8) : MadeI S (S2.wrote (n : Int) off p f) D n s kind := by
  have e1 : ∀ k, k ≠ n → (S2.wrote (n : Int) off p f).ino k = S2.ino k := fun k hk => by
    show br.upd _ ((n : Int)).toNat _ k = _
    rw [Int.toNat_natCast, upd_other _ _ hk]
  have e2 : (S2.wrote (n : Int) off p f).ino n = { S2.ino n with body := wr (S2.ino n).body off p f } := by
    show br.upd _ ((n : Int)).toNat _ n = _
    rw [Int.toNat_natCast, upd_same, at_nat]
  have e3 : (S2.wrote (n : Int) off p f).used = S2.used + (wr (S2.ino n).body off p f).n - (S2.ino n).body.n := by
    show S2.used + (wr (S2.at (n : Int)).body off p f).n - (S2.at (n : Int)).body.n = _
    rw [at_nat]
  refine ⟨h.d1, h.d2, h.hD, h.hl, h.hn, h.n1, h.n2, h.hz, h.ne, fun k k1 k2 => (e1 k k2).trans (h.oth k k1 k2), (e1 D (fun e => h.ne e.symm)).trans h.eD, by rw [e2]; exact h.eN, ?_⟩
  rw [e3, e2, h.us, hb]
  show S.used + abE.n + (wr abE off p f).n - abE.n = S.used + (wr abE off p f).n
  omega
theorem MadeI.lead {S S2 : BS} {room : Nat} (hG : br.Good S room) {D n : Nat} {s : ByteArray} {kind : Int} (h : MadeI S S2 D n s kind) : S2.dirE (D : Int) true = 0 ∧ S2.get (D : Int) s = ((n : Int), 0) ∧ S2.drop (D : Int) s (n : Int) = S := by
  have hs := hG.1.sorted D
  have k2 : (S2.ino D).kind = 2 := by rw [h.eD]; exact h.hD
  have kl : (S2.ino D).links ≠ 0 := by rw [h.eD]; exact h.hl
  have hd : S2.dirE (D : Int) true = 0 := by
    unfold BS.dirE BS.isI
    rw [at_nat, if_neg (by simp only [decide_eq_false_iff_not, Decidable.not_not]; exact ⟨by have := h.d1; omega, by have := h.d2; omega, by rw [k2]; decide⟩), if_neg (by rw [k2]; decide), if_neg (fun e => kl e.2)]
  refine ⟨hd, ?_, ?_⟩
  · rw [get_eq (dirE_less hd), h.eD]
    show (match lget s (lset s (n : Int) (S.ino D).dir) with | some v => (v, (0 : Int)) | none => (0, 2)) = _
    rw [lget_lset hs]
  · exact made_gone hG.1 h.hz h.ne h.hn h.oth h.eD h.us ⟨h.eN.2.1, h.eN.2.2.1⟩ (drop_drop s h.ne)
theorem back_dir {S S2 : BS} {room : Nat} (hG : br.Good S room) {D n : Nat} {s : ByteArray} (h : MadeI S S2 D n s 2) : S2.rmdir (D : Int) s = (0, S) := by
  obtain ⟨h1, h2, h3⟩ := h.lead hG
  unfold BS.rmdir
  rw [h2, if_neg (by rw [h1]; decide), if_neg (show ¬ ((0 : Int) ≠ 0) by decide), at_nat, if_neg (by rw [h.eN.1]; decide), if_neg (by rw [h.eN.2.2.2]; decide), h3]
theorem back_file {S S2 : BS} {room : Nat} (hG : br.Good S room) {D n : Nat} {s : ByteArray} {kind : Int} (h : MadeI S S2 D n s kind) (hk : kind ≠ 2) : S2.unlink (D : Int) s = (0, S) := by
  obtain ⟨h1, h2, h3⟩ := h.lead hG
  unfold BS.unlink
  rw [h2, if_neg (by rw [h1]; decide), if_neg (show ¬ ((0 : Int) ≠ 0) by decide), at_nat, if_neg (by rw [h.eN.1]; exact hk), h3]
end Go.Proofs.YtnnaoldpacbagaaGreat.cb
end
