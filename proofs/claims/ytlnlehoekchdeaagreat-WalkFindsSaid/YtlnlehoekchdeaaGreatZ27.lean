/- Two names of one file tell one file. What is held stays whole, and goes with its last hold. Links are names: a map of the call's own that counts, a row of entries beside it, the sums. Plain facts on lists of bytes: what the components of a path's text are, and what parsing it comes to. -/
import Derived.Test.YtlnlehoekchdeaaGreatZ26
import Derived.Maps.Own
import Derived.Maps.OwnOps
import Derived.Maps.Views
import Derived.Lib.Strings
section
namespace Go.Proofs.YtlnlehoekchdeaaGreat.cb
open Go.RowKit
open Go.Proofs.YtlnlehoekchdeaaGreat.br
open Go.Proofs.YtlnlehoekchdeaaGreat.dn (En nerr lget lset ldel dotB Sorted lget_some lget_none ldel_mem ldel_sorted lset_mem lset_sorted)
open Go.Proofs.YtlnlehoekchdeaaGreat.bl (AB Pq U8 wr wrB WR strF strF_eq over)
set_option linter.unusedVariables false
set_option linter.unusedSimpArgs false

theorem stat_of {S : BS} {I : Nat} (h1 : 1 ≤ I) (h2 : I ≤ 200) (hk : (S.ino I).kind ≠ 0) : S.stat (I : Int) = (((S.ino I).kind, (S.ino I).sizeOf, (S.ino I).links), 0) := by
  have hI : S.isI (I : Int) = true := by
    unfold BS.isI
    rw [at_nat]
    simp only [decide_eq_true_eq]
    exact ⟨by omega, by omega, hk⟩
  unfold BS.stat
  rw [if_pos hI, at_nat]
/-- A name more. -/
theorem names_of {S : BS} {room : Nat} (hG : br.Good S room) {t i : Int} {u : ByteArray} (h : (S.link t u i).1 = 0) :
    ∃ I : Nat, i = (I : Int) ∧ 1 ≤ I ∧ I ≤ 200 ∧ 1 ≤ (S.ino I).kind ∧ (S.ino I).kind ≠ 2 ∧ (S.ino I).kind ≤ 4 ∧ 1 ≤ (S.ino I).links ∧ (S.ino I).links ≤ 19 ∧ (S.link t u i).2.ino I = { S.ino I with links := (S.ino I).links + 1 } ∧ (S.link t u i).2.get t u = (i, 0) := by
  unfold BS.link at h ⊢
  by_cases e1 : S.vacant t u = 0
  case neg => exfalso; rw [if_pos e1] at h; exact e1 h
  rw [if_neg (by simpa using e1)] at h ⊢
  by_cases e2 : S.isI i = false ∨ (S.at i).links = 0
  · rw [if_pos e2] at h; cases h
  rw [if_neg e2] at h ⊢
  have hi : S.isI i = true := by
    cases hb : S.isI i
    · exact absurd (.inl hb) e2
    · rfl
  obtain ⟨I, rfl, i1, i2, i3⟩ := isI_yes hi
  rw [at_nat] at *
  by_cases e3 : (S.ino I).kind = 2
  · rw [if_pos e3] at h; cases h
  rw [if_neg e3] at h ⊢
  by_cases e4 : 20 ≤ (S.ino I).links
  · rw [if_pos e4] at h; cases h
  rw [if_neg e4]
  obtain ⟨T, rfl, t1, t2, tk, tl, hg, hs⟩ := vacant_ok e1
  have hne : I ≠ T := fun e => e3 (by rw [e]; exact tk)
  have hk := hG.1.kinds I
  have hn := (hG.1.nums I).1
  have hl : (S.ino I).links ≠ 0 := fun e => e2 (.inr e)
  have e5 : (S.put (I : Int) { S.ino I with links := (S.ino I).links + 1 }).at (T : Int) = S.ino T := by rw [at_nat, put_nat, if_neg (fun e => hne e.symm)]
  dsimp only
  unfold BS.putDir
  rw [e5]
  refine ⟨I, rfl, i1, i2, by omega, e3, hk.2, by omega, by omega, ?_, ?_⟩
  · rw [put_nat, if_neg hne, put_nat, if_pos rfl]
  · refine get_of t1 t2 ?_ ?_
    · rw [put_nat, if_pos rfl]; exact tk
    · rw [put_nat, if_pos rfl]; exact lget_lset (hG.1.sorted T)
/-- What is written at the beginning is read: of a file with room. -/
theorem wrote_read {S S' : BS} {room I len p : Nat} {f : Nat → UInt8} {err : Int} (i1 : 1 ≤ I) (i2 : I ≤ 200) (hk : (S.ino I).kind = 1) (hw : WrI S room (I : Int) 0 len f p err S') :
    p ≤ len ∧ (err = 0 ∨ err = 28) ∧ readI S' (I : Int) 0 (p : Int) = (0, p) ∧ ∀ j, j < p → (S'.at (I : Int)).body.dat ((0 : Int).toNat + j) = f j := by
  have hf : S.fileE (I : Int) = 0 := by
    unfold BS.fileE BS.kindOf BS.isI
    rw [at_nat, hk]
    simp [i1, i2]
    omega
  rcases hw with ⟨h1, _⟩ | ⟨_, h2, _, _, rfl⟩
  · exact absurd hf h1
  · have e2 : (S.wrote (I : Int) 0 p f).ino I = { S.ino I with body := wr (S.ino I).body 0 p f } := by
      show br.upd _ ((I : Int)).toNat _ I = _
      rw [Int.toNat_natCast, upd_same, at_nat]
    have hf2 : (S.wrote (I : Int) 0 p f).fileE (I : Int) = 0 := by
      unfold BS.fileE BS.kindOf BS.isI
      rw [at_nat, e2]
      simp [hk, i1, i2]
      omega
    have hp : p ≤ len ∧ (err = 0 ∨ err = 28) := by
      rcases h2 with ⟨a, _, _⟩ | ⟨_, _, b, c⟩ | ⟨a, _, _, _⟩ | ⟨_, _, _, b, c⟩
      · omega
      · exact ⟨by omega, .inl c⟩
      · omega
      · refine ⟨by have := b.le; omega, ?_⟩
        split at c
        · exact .inr c
        · exact .inl c
    refine ⟨hp.1, hp.2, ?_, fun j hj => ?_⟩
    · unfold readI
      rw [if_neg (by omega), at_nat, e2]
      unfold bl.readR
      rw [if_neg (by omega)]
      show ((0 : Int), min p ((if p = 0 then _ else max (S.ino I).body.size ((0 : Int).toNat + p)) - (0 : Int).toNat)) = _
      congr 1
      split <;> simp <;> omega
    · rw [at_nat, e2]
      show over (S.ino I).body.dat (0 : Int).toNat p f _ = _
      unfold over
      rw [if_pos (by simp; omega)]
      congr 1
      omega
/-- What is no file is not written. -/
theorem write_no {S S' : BS} {room I len p : Nat} {f : Nat → UInt8} {err : Int} (i1 : 1 ≤ I) (i2 : I ≤ 200) (hk : (S.ino I).kind ≠ 1) (h0 : (S.ino I).kind ≠ 0) (h2 : (S.ino I).kind ≠ 2) (hw : WrI S room (I : Int) 0 len f p err S') : p = 0 ∧ err = 22 := by
  have hf : S.fileE (I : Int) = 22 := by
    have hI : S.isI (I : Int) = true := by
      unfold BS.isI
      rw [at_nat]
      simp only [decide_eq_true_eq]
      exact ⟨by omega, by omega, h0⟩
    unfold BS.fileE BS.kindOf
    rw [if_pos hI, at_nat, if_neg h0, if_neg h2, if_neg hk]
  rcases hw with ⟨_, e1, e2, _⟩ | ⟨h1, _⟩
  · exact ⟨e1, by rw [e2, hf]⟩
  · rw [hf] at h1; cases h1
/-- A box of three cells of the call's own. -/
structure Bx3 (w : World) (b : Nat) (v0 v1 v2 : Value) : Prop where
  c0 : w.cell? ⟨b, 0, none⟩ = some v0
  c1 : w.cell? ⟨b, 1, none⟩ = some v1
  c2 : w.cell? ⟨b, 2, none⟩ = some v2
theorem Bx3.new (w : World) (v0 v1 v2 : Value) (t : TypeId) : Bx3 (w.alloc (.cells #[v0, v1, v2] t)) w.heap.size v0 v1 v2 := ⟨by simp, by simp, by simp⟩
theorem Bx3.lt {w : World} {b : Nat} {v0 v1 v2 : Value} (h : Bx3 w b v0 v1 v2) : b < w.heap.size := World.block_lt_of_cell? w _ h.c0
theorem Bx3.block {w w' : World} {b : Nat} {v0 v1 v2 : Value} (h : Bx3 w b v0 v1 v2) (hb : w'.heap[b]? = w.heap[b]?) : Bx3 w' b v0 v1 v2 :=
  ⟨(World.cell?_of_block (a := ⟨b, 0, none⟩) hb).trans h.c0, (World.cell?_of_block (a := ⟨b, 1, none⟩) hb).trans h.c1, (World.cell?_of_block (a := ⟨b, 2, none⟩) hb).trans h.c2⟩
theorem Bx3.below {w w' : World} {b : Nat} {v0 v1 v2 : Value} (h : Bx3 w b v0 v1 v2) (hb : Below w.heap.size w w') : Bx3 w' b v0 v1 v2 := h.block (hb.block _ h.lt)
theorem Bx3.same {w w' : World} {b : Nat} {X : Nat → Prop} {v0 v1 v2 : Value} (h : Bx3 w b v0 v1 v2) (hs : Same X w w') (hx : X b) : Bx3 w' b v0 v1 v2 := h.block (hs b hx)
/-- A branch beside blocks of the call's own that came last. -/
theorem BrX.beside {w0 w w' : World} {P room T : Nat} {X Y : Nat → Prop} {S : BS} (h : BrX w0 w P X S room T) (hb : Below w.heap.size w w') (hy : ∀ b, Y b → X b ∨ (w.heap.size ≤ b ∧ b < w'.heap.size)) : BrX w0 w' P Y S room T :=
  (h.over hb).sub fun b hY => by rcases hy b hY with h1 | h1
                                 · exact .inl h1
                                 · exact .inr (.inl h1)
end Go.Proofs.YtlnlehoekchdeaaGreat.cb
end
section
namespace Go.Proofs.YtlnlehoekchdeaaGreat.cb
open Go.RowKit
open Go.Proofs.YtlnlehoekchdeaaGreat.br
open Go.Proofs.YtlnlehoekchdeaaGreat.dn (En nerr lget lset ldel dotB Sorted lget_some lget_none ldel_mem ldel_sorted lset_mem lset_sorted)
open Go.Proofs.YtlnlehoekchdeaaGreat.bl (AB Pq U8 wr wrB WR strF strF_eq over)
set_option linter.unusedVariables false
set_option linter.unusedSimpArgs false

/-- Held k times more. -/
def hN (S : BS) (I k : Nat) : BS := S.put (I : Int) { S.ino I with holds := (S.ino I).holds + (k : Int) }
theorem hN_ino (S : BS) (I k j : Nat) : (hN S I k).ino j = if j = I then { S.ino I with holds := (S.ino I).holds + (k : Int) } else S.ino j := put_nat _ _ _ _
theorem hN_at (S : BS) (I k : Nat) : (hN S I k).ino I = { S.ino I with holds := (S.ino I).holds + (k : Int) } := by rw [hN_ino, if_pos rfl]
theorem hN_zero (S : BS) (I : Nat) : hN S I 0 = S := BS.ext' (fun j => by
  rw [hN_ino]
  by_cases e : j = I
  · subst e; rw [if_pos rfl]; show Ino.mk _ _ _ _ _ _ _ _ = _; rw [show (S.ino j).holds + ((0 : Nat) : Int) = (S.ino j).holds by omega]
  · rw [if_neg e]) rfl
theorem isI_of {S : BS} {I : Nat} (h1 : 1 ≤ I) (h2 : I ≤ 200) (hk : (S.ino I).kind ≠ 0) : S.isI (I : Int) = true := by
  unfold BS.isI
  rw [at_nat]
  simp only [decide_eq_true_eq]
  exact ⟨by omega, by omega, hk⟩
theorem kind_of {S : BS} {I : Nat} (h1 : 1 ≤ I) (h2 : I ≤ 200) : S.kindOf (I : Int) = (S.ino I).kind := by
  unfold BS.kindOf
  by_cases hk : (S.ino I).kind = 0
  · rw [hk, if_neg (by unfold BS.isI; rw [at_nat]; simp [hk])]
  · rw [if_pos (isI_of h1 h2 hk), at_nat]
theorem hN_hold {S : BS} {I : Nat} (h1 : 1 ≤ I) (h2 : I ≤ 200) (hk : (S.ino I).kind ≠ 0) (k : Nat) : (hN S I k).hold (I : Int) = (0, hN S I (k + 1)) := by
  have hi := isI_of (S := hN S I k) h1 h2 (by rw [hN_at]; exact hk)
  unfold BS.hold
  rw [hi, if_neg (by decide), at_nat, hN_at]
  refine Prod.ext rfl (BS.ext' (fun j => ?_) rfl)
  dsimp only
  rw [put_nat, hN_ino, hN_ino]
  by_cases e : j = I
  · subst e
    rw [if_pos rfl, if_pos rfl]
    show Ino.mk _ _ _ _ _ _ _ _ = Ino.mk _ _ _ _ _ _ _ _
    rw [show (S.ino j).holds + (k : Int) + 1 = (S.ino j).holds + ((k + 1 : Nat) : Int) by omega]
  · rw [if_neg e, if_neg e, if_neg e]
theorem hN_get {S : BS} {d : Int} {s : ByteArray} {I : Nat} (h : S.get d s = ((I : Int), 0)) (hk : (S.ino I).kind = 1) (k : Nat) : (hN S I k).get d s = ((I : Int), 0) := by
  obtain ⟨D, rfl, d1, d2, hD, hg⟩ := get_ok (by rw [h])
  rw [h] at hg
  have hne : D ≠ I := fun e => by subst e; rw [hD] at hk; cases hk
  have e : (hN S I k).ino D = S.ino D := by rw [hN_ino, if_neg hne]
  exact get_of d1 d2 (by rw [e]; exact hD) (by rw [e]; exact hg)
theorem held_file {S : BS} {d i : Int} {s : ByteArray} (h : S.get d s = (i, 0)) (hk : S.kindOf i = 1) : ∃ I : Nat, i = (I : Int) ∧ 1 ≤ I ∧ I ≤ 200 ∧ (S.ino I).kind = 1 := by
  unfold BS.kindOf at hk
  cases hi : S.isI i
  · rw [hi] at hk; cases hk
  · obtain ⟨I, rfl, i1, i2, i3⟩ := isI_yes hi
    rw [if_pos hi, at_nat] at hk
    exact ⟨I, rfl, i1, i2, hk⟩
theorem held_unlink {H : BS} {room I : Nat} (hG : br.Good H room) {d : Int} {s : ByteArray} (hg : H.get d s = ((I : Int), 0)) (hk : (H.ino I).kind = 1) (hh : 1 ≤ (H.ino I).holds) :
    ((H.unlink d s).1 = 0 ∧ (H.unlink d s).2.ino I = { H.ino I with links := (H.ino I).links - 1 } ∧ (H.unlink d s).2.used = H.used) ∨ ((H.unlink d s).1 = 2 ∧ (H.unlink d s).2 = H ∧ ∃ z : Nat, H.stat d = ((2, z, 0), 0)) := by
  obtain ⟨D, rfl, d1, d2, hD, hl⟩ := get_ok (by rw [hg])
  rw [hg] at hl
  have hne : I ≠ D := fun e => by subst e; rw [hD] at hk; cases hk
  by_cases hz : (H.ino D).links = 0
  · right
    have hd : H.dirE (D : Int) true = 2 := by
      unfold BS.dirE
      rw [isI_of d1 d2 (by rw [hD]; decide), if_neg (by decide), at_nat, if_neg (by rw [hD]; decide), if_pos ⟨rfl, hz⟩]
    refine ⟨by unfold BS.unlink; rw [if_pos (by rw [hd]; decide)]; exact hd, by unfold BS.unlink; rw [if_pos (by rw [hd]; decide)], (H.ino D).sizeOf, ?_⟩
    rw [stat_of d1 d2 (by rw [hD]; decide), hD, hz]
  · left
    have hd := dirE_yes d1 d2 hD hz
    have e : H.unlink (D : Int) s = (0, H.drop (D : Int) s (I : Int)) := by
      unfold BS.unlink
      rw [hg, if_neg (by rw [hd]; decide), if_neg (show ¬ ((0 : Int) ≠ 0) by decide), at_nat, if_neg (by rw [hk]; decide)]
    rw [e]
    have dd := drop_drop (S := H) s hne
    refine ⟨rfl, ?_⟩
    rcases dd.ino with ⟨_, _, h3, _⟩ | ⟨h1, _, h3⟩
    · omega
    · exact ⟨h1, h3⟩
/-- Released j times. -/
def rN (U : BS) (I j : Nat) : BS := U.put (I : Int) { U.ino I with holds := (U.ino I).holds - (j : Int) }
theorem rN_ino (S : BS) (I k j : Nat) : (rN S I k).ino j = if j = I then { S.ino I with holds := (S.ino I).holds - (k : Int) } else S.ino j := put_nat _ _ _ _
theorem rN_at (S : BS) (I k : Nat) : (rN S I k).ino I = { S.ino I with holds := (S.ino I).holds - (k : Int) } := by rw [rN_ino, if_pos rfl]
theorem rN_zero (S : BS) (I : Nat) : rN S I 0 = S := BS.ext' (fun j => by
  rw [rN_ino]
  by_cases e : j = I
  · subst e; rw [if_pos rfl]; show Ino.mk _ _ _ _ _ _ _ _ = _; rw [show (S.ino j).holds - ((0 : Nat) : Int) = (S.ino j).holds by omega]
  · rw [if_neg e]) rfl
/-- What is there when all was released. -/
def Fin (U F : BS) (I n : Nat) : Prop :=
  ((F.ino I).kind = 1 ∧ ¬ ((U.ino I).links = 0 ∧ (U.ino I).holds - (n : Int) = 0)) ∨ ((F.ino I).kind = 0 ∧ (U.ino I).links = 0 ∧ F.used ≤ U.used)
theorem rN_release {U : BS} {I : Nat} (h1 : 1 ≤ I) (h2 : I ≤ 200) (hk : (U.ino I).kind = 1) (n j : Nat) (hj : j < n) (hn : (n : Int) ≤ (U.ino I).holds) :
    ((rN U I j).release (I : Int)).1 = 0 ∧ (j + 1 < n → ((rN U I j).release (I : Int)).2 = rN U I (j + 1)) ∧ (j + 1 = n → Fin U ((rN U I j).release (I : Int)).2 I n) := by
  have hi := isI_of (S := rN U I j) h1 h2 (by rw [rN_at]; show (U.ino I).kind ≠ 0; rw [hk]; decide)
  have hne : ¬ ((U.ino I).holds - (j : Int) = 0) := by omega
  have e : (rN U I j).release (I : Int) = (0, (rN U I j).less (I : Int) 0 1) := by
    unfold BS.release
    rw [hi, if_neg (by decide), at_nat, rN_at, if_neg hne]
  rw [e]
  refine ⟨rfl, fun hl => ?_, fun hl => ?_⟩
  · unfold BS.less
    dsimp only
    rw [at_nat, rN_at]
    dsimp only
    rw [if_neg (by omega)]
    refine BS.ext' (fun k => ?_) rfl
    rw [put_nat, rN_ino, rN_ino]
    by_cases e : k = I
    · subst e
      rw [if_pos rfl, if_pos rfl]
      show Ino.mk _ _ _ _ _ _ _ _ = Ino.mk _ _ _ _ _ _ _ _
      rw [show (U.ino k).holds - (j : Int) - 1 = (U.ino k).holds - ((j + 1 : Nat) : Int) by omega, Int.sub_zero]
    · rw [if_neg e, if_neg e, if_neg e]
  · unfold BS.less
    dsimp only
    rw [at_nat, rN_at]
    dsimp only
    by_cases hz : (U.ino I).links - 0 = 0 ∧ (U.ino I).holds - (j : Int) - 1 = 0
    · rw [if_pos hz]
      refine .inr ⟨?_, by omega, ?_⟩
      · show (br.upd _ ((I : Int)).toNat _ I).kind = 0
        rw [Int.toNat_natCast, upd_same]; rfl
      · show (rN U I j).used - _ ≤ U.used
        exact Nat.sub_le _ _
    · rw [if_neg hz]
      refine .inl ⟨?_, by omega⟩
      rw [put_nat, if_pos rfl]; exact hk
theorem fileE_of {S : BS} {I : Nat} (h1 : 1 ≤ I) (h2 : I ≤ 200) (hk : (S.ino I).kind = 1) : S.fileE (I : Int) = 0 := by
  unfold BS.fileE
  rw [kind_of h1 h2, hk]; rfl
theorem readI_same {S U : BS} {I : Nat} (h1 : 1 ≤ I) (h2 : I ≤ 200) (hk : (S.ino I).kind = 1) (hu : (U.ino I).kind = 1) (hb : (U.ino I).body = (S.ino I).body) : readI U (I : Int) 0 65536 = readI S (I : Int) 0 65536 ∧ (readI S (I : Int) 0 65536).1 = 0 ∧ (U.at (I : Int)).body = (S.at (I : Int)).body ∧ (readI S (I : Int) 0 65536).2 ≤ 65536 := by
  unfold readI
  rw [fileE_of h1 h2 hk, fileE_of h1 h2 hu, if_neg (by decide), if_neg (by decide), at_nat, at_nat, hb]
  refine ⟨rfl, ?_, rfl, ?_⟩
  · unfold bl.readR; rw [if_neg (by decide)]
  · unfold bl.readR; rw [if_neg (by decide)]; exact Nat.le_trans (Nat.min_le_left _ _) (by decide)
/-- A row of bytes is kept where its block is. -/
theorem row_same {w w' : World} {lo n c : Nat} {A : Option Addr} {f : Nat → UInt8} {X : Nat → Prop} (h : bl.Row w lo A n c f) (hs : Same X w w') (hX : ∀ b, lo ≤ b → b < w.heap.size → X b) : bl.Row w' lo A n c f := by
  refine ⟨h.1, ?_⟩
  rcases h.2 with h0 | ⟨g, hg, e, hc⟩
  · exact .inl h0
  · exact .inr ⟨g, hg, e, (hs g (hX g hg (Array.getElem?_eq_some_iff.1 hc).1)).trans hc⟩
theorem row_below {w w' : World} {lo n c : Nat} {A : Option Addr} {f : Nat → UInt8} (h : bl.Row w lo A n c f) (hb : Below w.heap.size w w') : bl.Row w' lo A n c f :=
  row_same (X := fun b => b < w.heap.size) h (fun b h1 => hb.block b h1) (fun b _ h2 => h2)
end Go.Proofs.YtlnlehoekchdeaaGreat.cb
end
section
namespace Go.Proofs.YtlnlehoekchdeaaGreat.cb
open Go.RowKit
open Go.Maps (Keyed IsMap isMap_empty atKey_put_same atKey_put_other int_keyed keyOf_int_mk)
open Go.Proofs.YtlnlehoekchdeaaGreat.br
open Go.Proofs.YtlnlehoekchdeaaGreat.bl (Only Pq)
open Go.Proofs.YtlnlehoekchdeaaGreat.dn (En)
set_option linter.unusedVariables false
set_option linter.unusedSimpArgs false

def updI {α : Type} (f : Int → α) (a : Int) (b : α) : Int → α := fun x => if x = a then b else f x
def Wf (a : Int) : Prop := (Lit.int .i64 a).wf = true
theorem wf_small {a : Int} (h1 : -1000000 ≤ a) (h2 : a ≤ 1000000) : Wf a := by
  unfold Wf
  simp only [Lit.wf, Bool.and_eq_true, decide_eq_true_eq]
  refine ⟨Int.le_trans (by decide) h1, Int.le_trans h2 (by decide)⟩
theorem only_grown {w w' : World} {B : Nat} (h : w.grownBy w' (some B)) : Only (fun b => b = B) w w' := ⟨h.os, h.tape, h.output, h.size, fun k hk hF => h.block k hk (fun e => hF (by injection e))⟩
theorem BrX.only {w0 w w' : World} {P room T : Nat} {X F : Nat → Prop} {S : BS} (h : BrX w0 w P X S room T) (ho : Only F w w') (hF : ∀ b, F b → X b) (hl : ∀ b, F b → w0.heap.size ≤ b) : BrX w0 w' P X S room T := by
  obtain ⟨st, qb, qo, pl, tag, Tq, h1, h2, h3, h4, h5, h6, h7⟩ := h
  exact ⟨st, qb, qo, pl, tag, Tq, h1.only ho (fun b hb => (h7 b (hF b hb)).2), h2, h3, h4, h5, h6.trans ⟨ho.os, ho.tape, ho.output, ho.size, fun k hk => ho.block k (Nat.lt_of_lt_of_le hk h6.size) (fun hf => by have := hl k hf; omega)⟩,
    fun b hb => ⟨Nat.lt_of_lt_of_le (h7 b hb).1 ho.size, (h7 b hb).2⟩⟩
/-- A row of entries beside a block M. -/
def RowC (w : World) (A : Option Addr) (M : Nat) (L : List En) : Prop :=
  ∀ j x, L[j]? = some x → ∃ g, A = some ⟨g, 0, none⟩ ∧ g ≠ M ∧ g < w.heap.size ∧ w.cell? ⟨g, j * 2, none⟩ = some (.string x.1) ∧ w.cell? ⟨g, j * 2 + 1, none⟩ = some (.int .i64 x.2)
theorem RowC.only {w w' : World} {A : Option Addr} {M : Nat} {L : List En} (h : RowC w A M L) (ho : Only (fun b => b = M) w w') : RowC w' A M L := fun j x hx => by
  obtain ⟨g, e, h1, h2, h3, h4⟩ := h j x hx
  have hb := ho.block g h2 h1
  exact ⟨g, e, h1, Nat.lt_of_lt_of_le h2 ho.size, (World.cell?_of_block (a := ⟨g, j * 2, none⟩) hb).trans h3, (World.cell?_of_block (a := ⟨g, j * 2 + 1, none⟩) hb).trans h4⟩
theorem RowC.below {w w' : World} {A : Option Addr} {M : Nat} {L : List En} (h : RowC w A M L) (hb : Below w.heap.size w w') : RowC w' A M L := h.only ((Only.of_below hb (F := fun _ => False)).mono (fun _ h => h.elim))

/-! ### the sums -/
/-- How many names lead to a: the root's, those of the inodes up to i, those of L. -/
def nmF (S : BS) (i : Nat) (L : List En) : Int → Int := fun a => (if a = 1 then 1 else 0) + (S.names a i : Int) + (names a L : Int)
theorem names_len (a : Int) (L : List En) : names a L ≤ L.length := List.length_filter_le _ _
theorem nmF_step (S : BS) (i : Nat) {L : List En} {j : Nat} {x : En} (hx : L[j]? = some x) : updI (nmF S i (L.take j)) x.2 (nmF S i (L.take j) x.2 + 1) = nmF S i (L.take (j + 1)) := by
  funext a
  unfold updI nmF
  rw [List.take_add_one, hx, names_append, Option.toList_some, names_cons, names_nil]
  generalize hg : ((if a = 1 then 1 else 0 : Int)) = g
  by_cases e : a = x.2
  · subst e
    rw [if_pos (rfl : x.2 = x.2), if_pos (rfl : x.2 = x.2), hg]
    omega
  · rw [if_neg e, if_neg (fun h : x.2 = a => e h.symm)]
    omega
theorem nmF_next (S : BS) (k : Nat) : nmF S k (S.ino (k + 1)).dir = nmF S (k + 1) [] := by
  funext a
  unfold nmF
  have : S.names a (k + 1) = S.names a k + names a (S.ino (k + 1)).dir := rfl
  rw [this, names_nil]
  omega
theorem nmF_none (S : BS) (k : Nat) (h : (S.ino (k + 1)).dir = []) : nmF S k [] = nmF S (k + 1) [] := by rw [← nmF_next, h]
theorem names_bound {S : BS} {room : Nat} (h : Inv S room) (a : Int) (k : Nat) : S.names a k ≤ 4000 * k := by
  induction k with
  | zero => exact Nat.le_refl _
  | succ k ih =>
    have e : S.names a (k + 1) = S.names a k + names a (S.ino (k + 1)).dir := rfl
    have h1 := names_len a (S.ino (k + 1)).dir
    have h2 := h.dirLen (k + 1)
    omega
theorem count_next (S : BS) (k : Nat) : S.count (k + 1) = S.count k + if (S.ino (k + 1)).kind ≠ 0 then 1 else 0 := rfl
theorem count_le (S : BS) (k : Nat) : S.count k ≤ k := by
  induction k with
  | zero => exact Nat.le_refl _
  | succ k ih => rw [count_next]; split <;> omega
theorem start_f (S : BS) : updI (fun _ => (0 : Int)) 1 1 = nmF S 0 [] := by
  funext a
  unfold updI nmF
  have : S.names a 0 = 0 := rfl
  rw [this, names_nil]
  split <;> rfl
theorem links_f {S : BS} {room : Nat} (h : Inv S room) (k : Nat) (h1 : 1 ≤ k) (h2 : k ≤ 200) : nmF S 200 [] (k : Int) = (S.ino k).links := by
  unfold nmF
  rw [h.links k h1 h2, names_nil]
  by_cases e : k = 1
  · subst e; rw [if_pos (show ((1 : Nat) : Int) = 1 from rfl), if_pos rfl]; omega
  · rw [if_neg (show ¬ ((k : Int) = 1) by omega), if_neg e]; omega
theorem all_dir {S : BS} {I : Nat} (h1 : 1 ≤ I) (h2 : I ≤ 200) (hk : (S.ino I).kind = 2) : S.all (I : Int) = ((S.ino I).dir, 0) := by
  unfold BS.all
  have hd : S.dirE (I : Int) false = 0 := by
    unfold BS.dirE
    rw [isI_of h1 h2 (by rw [hk]; decide), if_neg (by decide), at_nat, if_neg (by rw [hk]; decide), if_neg (fun e => by cases e.1)]
  rw [hd, if_neg (by decide), at_nat]
theorem all_no {S : BS} {I : Nat} (h1 : 1 ≤ I) (h2 : I ≤ 200) (h0 : (S.ino I).kind ≠ 0) (hk : (S.ino I).kind ≠ 2) : S.all (I : Int) = ([], 20) := by
  unfold BS.all
  have hd : S.dirE (I : Int) false = 20 := by
    unfold BS.dirE
    rw [isI_of h1 h2 h0, if_neg (by decide), at_nat, if_pos hk]
  rw [hd, if_pos (by decide)]
theorem parent_of {S : BS} {I : Nat} (h1 : 1 ≤ I) (h2 : I ≤ 200) (hk : (S.ino I).kind ≠ 0) : S.parentOf (I : Int) = (S.ino I).parent := by
  unfold BS.parentOf
  rw [if_pos (isI_of h1 h2 hk), at_nat]
/-- An entry's inode: its number, and where it is a directory, its parent. -/
theorem entry_ok {S : BS} {room D : Nat} (hG : br.Good S room) {x : En} (hx : x ∈ (S.ino D).dir) : ∃ I : Nat, x.2 = (I : Int) ∧ 1 ≤ I ∧ I ≤ 200 ∧ (S.ino I).kind ≠ 0 ∧ ((S.ino I).kind = 2 → (S.ino I).parent = (D : Int)) := by
  obtain ⟨_, _, I, e, h1, h2, _, _, h5⟩ := hG.1.entry hx
  refine ⟨I, e, h1, h2, h5, fun hk => ?_⟩
  have := hG.1.up D x hx (by rw [e]; rw [at_nat]; exact hk)
  rw [e, at_nat] at this
  exact this
end Go.Proofs.YtlnlehoekchdeaaGreat.cb
end
section
namespace Go.Proofs.YtlnlehoekchdeaaGreat.pa


abbrev Bs := List UInt8

/-- The components, one of them begun. -/
def compsA : Bs → Bs → List Bs
  | cur, [] => if cur.isEmpty then [] else [cur]
  | cur, c :: r => if c = 47 then (if cur.isEmpty then compsA [] r else cur :: compsA [] r) else compsA (cur ++ [c]) r

def comps (l : Bs) : List Bs := compsA [] l
def one (cur : Bs) : List Bs := if cur.isEmpty then [] else [cur]

theorem compsA_nil (cur : Bs) : compsA cur [] = one cur := by simp [compsA, one]
theorem compsA_slash (cur r : Bs) : compsA cur (47 :: r) = one cur ++ comps r := by
  simp only [compsA, comps, one, if_pos]
  split <;> rfl
theorem compsA_other (cur r : Bs) (c : UInt8) (h : c ≠ 47) : compsA cur (c :: r) = compsA (cur ++ [c]) r := by
  simp [compsA, h]
theorem compsA_run (x cur r : Bs) (h : ∀ c ∈ x, c ≠ 47) : compsA cur (x ++ r) = compsA (cur ++ x) r := by
  induction x generalizing cur with
  | nil => simp
  | cons c x ih =>
    rw [List.cons_append, compsA_other _ _ _ (h c (by simp)), ih _ (fun d hd => h d (by simp [hd]))]
    simp
theorem compsA_mid (a cur b : Bs) : compsA cur (a ++ 47 :: b) = compsA cur a ++ comps b := by
  induction a generalizing cur with
  | nil => rw [List.nil_append, compsA_slash, compsA_nil]
  | cons c a ih =>
    by_cases h : c = 47
    · subst h
      rw [List.cons_append, compsA_slash, compsA_slash, List.append_assoc]
      exact congrArg _ (ih [])
    · rw [List.cons_append, compsA_other _ _ _ h, compsA_other _ _ _ h, ih]
theorem comps_mid (a b : Bs) : comps (a ++ 47 :: b) = comps a ++ comps b := compsA_mid a [] b
theorem comps_nil : comps [] = [] := by simp [comps, compsA]
theorem comps_one (x : Bs) (h : ∀ c ∈ x, c ≠ 47) : comps x = one x := by
  have := compsA_run x [] [] h
  rw [List.append_nil, List.nil_append, compsA_nil] at this
  exact this
theorem one_ne (x : Bs) (h : x ≠ []) : one x = [x] := by cases x <;> simp_all [one]
theorem one_nil : one [] = [] := rfl

/-- What a component is. -/
def IsComp (l x : Bs) : Prop := x ≠ [] ∧ (∀ c ∈ x, c ≠ 47) ∧ ∀ c ∈ x, c ∈ l
theorem compsA_is (l cur m : Bs) (hc : ∀ c ∈ cur, c ≠ 47 ∧ c ∈ m) (hl : ∀ c ∈ l, c ∈ m) : ∀ x ∈ compsA cur l, IsComp m x := by
  induction l generalizing cur with
  | nil =>
    intro x hx
    rw [compsA_nil, one] at hx
    split at hx
    · simp at hx
    · rename_i hne
      simp at hx
      subst hx
      exact ⟨by simpa using hne, fun c h => (hc c h).1, fun c h => (hc c h).2⟩
  | cons c l ih =>
    intro x hx
    by_cases h : c = 47
    · subst h
      rw [compsA_slash, List.mem_append] at hx
      rcases hx with hx | hx
      · rw [one] at hx
        split at hx
        · simp at hx
        · rename_i hne
          simp at hx
          subst hx
          exact ⟨by simpa using hne, fun c h => (hc c h).1, fun c h => (hc c h).2⟩
      · exact ih [] (by simp) (fun d hd => hl d (by simp [hd])) x hx
    · rw [compsA_other _ _ _ h] at hx
      refine ih (cur ++ [c]) ?_ (fun d hd => hl d (by simp [hd])) x hx
      intro d hd
      rw [List.mem_append, List.mem_singleton] at hd
      rcases hd with hd | rfl
      · exact hc d hd
      · exact ⟨h, hl d (by simp)⟩
theorem comps_is (l : Bs) : ∀ x ∈ comps l, IsComp l x := compsA_is l [] l (by simp) (fun _ h => h)

/-- How much the components take: their bytes, and one slash between two. -/
theorem compsA_len (l cur : Bs) : (compsA cur l).length + ((compsA cur l).map List.length).sum ≤ cur.length + l.length + 1 := by
  induction l generalizing cur with
  | nil => rw [compsA_nil, one]; split <;> simp; omega
  | cons c l ih =>
    by_cases h : c = 47
    · subst h
      rw [compsA_slash]
      have := ih []
      simp only [List.length_nil, Nat.zero_add] at this
      have e : (compsA [] l) = comps l := rfl
      rw [e] at this
      rw [one]
      split
      · simp; omega
      · simp; omega
    · rw [compsA_other _ _ _ h]
      have := ih (cur ++ [c])
      simp at this ⊢
      omega
theorem compsA_count (l cur : Bs) : (compsA cur l).length ≤ cur.length + l.length := by
  induction l generalizing cur with
  | nil =>
    rw [compsA_nil]
    cases cur <;> simp [one]
  | cons c l ih =>
    by_cases h : c = 47
    · subst h
      rw [compsA_slash]
      have := ih []
      have e : (compsA [] l) = comps l := rfl
      rw [e] at this
      cases cur <;> simp [one] at this ⊢ <;> omega
    · rw [compsA_other _ _ _ h]
      have := ih (cur ++ [c])
      simp at this ⊢
      omega
theorem comps_count (l : Bs) : (comps l).length ≤ l.length := by have := compsA_count l []; rw [List.length_nil, Nat.zero_add] at this; exact this

def isDot (x : Bs) : Bool := x == [46]
def nms (l : Bs) : List Bs := (comps l).filter fun x => !(x == [46])
def lastDots (xs : List Bs) : Bool := match xs.getLast? with | some x => x == [46] || x == [46, 46] | none => false
def pdir (l : Bs) : Bool := (comps l).isEmpty || Lib.hasSuffix l [47] || lastDots (comps l)
def perr (l : Bs) : Int :=
  if l = [] then 2 else if 400 < l.length then 36 else if (0 : UInt8) ∈ l then 22
  else if ∃ x ∈ comps l, 60 < x.length then 36 else if 40 < (nms l).length then 36 else 0
def pnames (l : Bs) : List Bs := if perr l = 0 then nms l else []
def pdirE (l : Bs) : Bool := if perr l = 0 then pdir l else false

theorem perr_zero {l : Bs} : perr l = 0 ↔ l ≠ [] ∧ l.length ≤ 400 ∧ (0 : UInt8) ∉ l ∧ (∀ x ∈ comps l, x.length ≤ 60) ∧ (nms l).length ≤ 40 := by
  unfold perr
  by_cases h1 : l = []
  · simp [h1]
  · by_cases h2 : 400 < l.length
    · simp [h1, h2]
      omega
    · by_cases h3 : (0 : UInt8) ∈ l
      · simp [h1, h2, h3]
      · by_cases h4 : ∃ x ∈ comps l, 60 < x.length
        · obtain ⟨x, hx, hl⟩ := h4
          have h4' : ∃ x ∈ comps l, 60 < x.length := ⟨x, hx, hl⟩
          rw [if_neg h1, if_neg h2, if_neg h3, if_pos h4']
          refine ⟨by simp, fun ⟨_, _, _, h, _⟩ => ?_⟩
          have := h x hx
          omega
        · have h4' : ∀ x ∈ comps l, x.length ≤ 60 := fun x hx => by
            rcases Nat.lt_or_ge 60 x.length with h | h
            · exact absurd ⟨x, hx, h⟩ h4
            · exact h
          by_cases h5 : 40 < (nms l).length
          · rw [if_neg h1, if_neg h2, if_neg h3, if_neg h4, if_pos h5]
            exact ⟨by simp, fun ⟨_, _, _, _, h⟩ => by omega⟩
          · rw [if_neg h1, if_neg h2, if_neg h3, if_neg h4, if_neg h5]
            exact ⟨fun _ => ⟨h1, by omega, h3, h4', by omega⟩, fun _ => rfl⟩
theorem pnames_le (l : Bs) : (pnames l).length ≤ 40 := by
  unfold pnames
  split
  · rename_i h; exact (perr_zero.1 h).2.2.2.2
  · simp
theorem pnames_ok {l : Bs} (h : perr l = 0) : pnames l = nms l := by simp [pnames, h]
theorem pdirE_ok {l : Bs} (h : perr l = 0) : pdirE l = pdir l := by simp [pdirE, h]
theorem pnames_no {l : Bs} (h : perr l ≠ 0) : pnames l = [] := by simp [pnames, h]
theorem pdirE_no {l : Bs} (h : perr l ≠ 0) : pdirE l = false := by simp [pdirE, h]

/-- The loop over the components, so far. -/
def gath (xs : List Bs) : List Bs := xs.filter fun x => !(x == [46])
theorem gath_snoc (xs : List Bs) (x : Bs) : gath (xs ++ [x]) = gath xs ++ if x = [46] then [] else [x] := by
  unfold gath
  rw [List.filter_append]
  by_cases h : x = [46] <;> simp [h]
theorem gath_le (xs : List Bs) : (gath xs).length ≤ xs.length := List.length_filter_le _ _
theorem gath_comps (l : Bs) : gath (comps l) = nms l := rfl
end Go.Proofs.YtlnlehoekchdeaaGreat.pa
end
