/- What is held stays whole, and goes with its last hold. -/
import Derived.Test.YtlelnpckbcpkkaaGreatNm
namespace Go.Proofs.YtlelnpckbcpkkaaGreat.cb
open Go.RowKit
open Go.Proofs.YtlelnpckbcpkkaaGreat.br
open Go.Proofs.YtlelnpckbcpkkaaGreat.dn (En nerr lget lset ldel dotB Sorted lget_some lget_none ldel_mem ldel_sorted lset_mem lset_sorted)
open Go.Proofs.YtlelnpckbcpkkaaGreat.bl (AB Pq U8 wr wrB WR strF strF_eq over)
set_option linter.unusedVariables false
set_option linter.unusedSimpArgs false

/-- Held k times more. -/
def hN (S : BS) (I k : Nat) : BS := S.put (I : Int) { S.ino I with holds := (S.ino I).holds + (k : Int) }
theorem hN_ino (S : BS) (I k j : Nat) : (hN S I k).ino j = if j = I then { S.ino I with holds := (S.ino I).holds + (k : Int) } else S.ino j := put_nat _ _ _ _
theorem hN_at (S : BS) (I k : Nat) : (hN S I k).ino I = { S.ino I with holds := (S.ino I).holds + (k : Int) } := by rw [hN_ino, if_pos rfl]
theorem hN_zero (S : BS) (I : Nat) : hN S I 0 = S := BS.ext' (fun j => by
  rw [hN_ino]
  by_cases e : j = I
  · subst e; rw [if_pos rfl]; show Ino.mk _ _ _ _ _ _ _ _ = _; rw [show (S.ino j).holds + ((0 : Nat) : Int) = (S.ino j).holds by omega]
  · rw [if_neg e]) rfl
theorem isI_of {S : BS} {I : Nat} (h1 : 1 ≤ I) (h2 : I ≤ 200) (hk : (S.ino I).kind ≠ 0) : S.isI (I : Int) = true := by
  unfold BS.isI
  rw [at_nat]
  simp only [decide_eq_true_eq]
  exact ⟨by omega, by omega, hk⟩
theorem kind_of {S : BS} {I : Nat} (h1 : 1 ≤ I) (h2 : I ≤ 200) : S.kindOf (I : Int) = (S.ino I).kind := by
  unfold BS.kindOf
  by_cases hk : (S.ino I).kind = 0
  · rw [hk, if_neg (by unfold BS.isI; rw [at_nat]; simp [hk])]
  · rw [if_pos (isI_of h1 h2 hk), at_nat]
theorem hN_hold {S : BS} {I : Nat} (h1 : 1 ≤ I) (h2 : I ≤ 200) (hk : (S.ino I).kind ≠ 0) (k : Nat) : (hN S I k).hold (I : Int) = (0, hN S I (k + 1)) := by
  have hi := isI_of (S := hN S I k) h1 h2 (by rw [hN_at]; exact hk)
  unfold BS.hold
  rw [hi, if_neg (by decide), at_nat, hN_at]
  refine Prod.ext rfl (BS.ext' (fun j => ?_) rfl)
  dsimp only
  rw [put_nat, hN_ino, hN_ino]
  by_cases e : j = I
  · subst e
    rw [if_pos rfl, if_pos rfl]
    show Ino.mk _ _ _ _ _ _ _ _ = Ino.mk _ _ _ _ _ _ _ _
    rw [show (S.ino j).holds + (k : Int) + 1 = (S.ino j).holds + ((k + 1 : Nat) : Int) by omega]
  · rw [if_neg e, if_neg e, if_neg e]
theorem hN_get {S : BS} {d : Int} {s : ByteArray} {I : Nat} (h : S.get d s = ((I : Int), 0)) (hk : (S.ino I).kind = 1) (k : Nat) : (hN S I k).get d s = ((I : Int), 0) := by
  obtain ⟨D, rfl, d1, d2, hD, hg⟩ := get_ok (by rw [h])
  rw [h] at hg
  have hne : D ≠ I := fun e => by subst e; rw [hD] at hk; cases hk
  have e : (hN S I k).ino D = S.ino D := by rw [hN_ino, if_neg hne]
  exact get_of d1 d2 (by rw [e]; exact hD) (by rw [e]; exact hg)
theorem held_file {S : BS} {d i : Int} {s : ByteArray} (h : S.get d s = (i, 0)) (hk : S.kindOf i = 1) : ∃ I : Nat, i = (I : Int) ∧ 1 ≤ I ∧ I ≤ 200 ∧ (S.ino I).kind = 1 := by
  unfold BS.kindOf at hk
  cases hi : S.isI i
  · rw [hi] at hk; cases hk
  · obtain ⟨I, rfl, i1, i2, i3⟩ := isI_yes hi
    rw [if_pos hi, at_nat] at hk
    exact ⟨I, rfl, i1, i2, hk⟩
theorem held_unlink {H : BS} {room I : Nat} (hG : br.Good H room) {d : Int} {s : ByteArray} (hg : H.get d s = ((I : Int), 0)) (hk : (H.ino I).kind = 1) (hh : 1 ≤ (H.ino I).holds) :
    ((H.unlink d s).1 = 0 ∧ (H.unlink d s).2.ino I = { H.ino I with links := (H.ino I).links - 1 } ∧ (H.unlink d s).2.used = H.used) ∨ ((H.unlink d s).1 = 2 ∧ (H.unlink d s).2 = H ∧ ∃ z : Nat, H.stat d = ((2, z, 0), 0)) := by
  obtain ⟨D, rfl, d1, d2, hD, hl⟩ := get_ok (by rw [hg])
  rw [hg] at hl
  have hne : I ≠ D := fun e => by subst e; rw [hD] at hk; cases hk
  by_cases hz : (H.ino D).links = 0
  · right
    have hd : H.dirE (D : Int) true = 2 := by
      unfold BS.dirE
      rw [isI_of d1 d2 (by rw [hD]; decide), if_neg (by decide), at_nat, if_neg (by rw [hD]; decide), if_pos ⟨rfl, hz⟩]
    refine ⟨by unfold BS.unlink; rw [if_pos (by rw [hd]; decide)]; exact hd, by unfold BS.unlink; rw [if_pos (by rw [hd]; decide)], (H.ino D).sizeOf, ?_⟩
    rw [stat_of d1 d2 (by rw [hD]; decide), hD, hz]
  · left
    have hd := dirE_yes d1 d2 hD hz
    have e : H.unlink (D : Int) s = (0, H.drop (D : Int) s (I : Int)) := by
      unfold BS.unlink
      rw [hg, if_neg (by rw [hd]; decide), if_neg (show ¬ ((0 : Int) ≠ 0) by decide), at_nat, if_neg (by rw [hk]; decide)]
    rw [e]
    have dd := drop_drop (S := H) s hne
    refine ⟨rfl, ?_⟩
    rcases dd.ino with ⟨_, _, h3, _⟩ | ⟨h1, _, h3⟩
    · omega
    · exact ⟨h1, h3⟩
/-- Released j times. -/
def rN (U : BS) (I j : Nat) : BS := U.put (I : Int) { U.ino I with holds := (U.ino I).holds - (j : Int) }
theorem rN_ino (S : BS) (I k j : Nat) : (rN S I k).ino j = if j = I then { S.ino I with holds := (S.ino I).holds - (k : Int) } else S.ino j := put_nat _ _ _ _
theorem rN_at (S : BS) (I k : Nat) : (rN S I k).ino I = { S.ino I with holds := (S.ino I).holds - (k : Int) } := by rw [rN_ino, if_pos rfl]
theorem rN_zero (S : BS) (I : Nat) : rN S I 0 = S := BS.ext' (fun j => by
  rw [rN_ino]
  by_cases e : j = I
  · subst e; rw [if_pos rfl]; show Ino.mk _ _ _ _ _ _ _ _ = _; rw [show (S.ino j).holds - ((0 : Nat) : Int) = (S.ino j).holds by omega]
  · rw [if_neg e]) rfl
/-- What is there when all was released. -/
def Fin (U F : BS) (I n : Nat) : Prop :=
  ((F.ino I).kind = 1 ∧ ¬ ((U.ino I).links = 0 ∧ (U.ino I).holds - (n : Int) = 0)) ∨ ((F.ino I).kind = 0 ∧ (U.ino I).links = 0 ∧ F.used ≤ U.used)
theorem rN_release {U : BS} {I : Nat} (h1 : 1 ≤ I) (h2 : I ≤ 200) (hk : (U.ino I).kind = 1) (n j : Nat) (hj : j < n) (hn : (n : Int) ≤ (U.ino I).holds) :
    ((rN U I j).release (I : Int)).1 = 0 ∧ (j + 1 < n → ((rN U I j).release (I : Int)).2 = rN U I (j + 1)) ∧ (j + 1 = n → Fin U ((rN U I j).release (I : Int)).2 I n) := by
  have hi := isI_of (S := rN U I j) h1 h2 (by rw [rN_at]; show (U.ino I).kind ≠ 0; rw [hk]; decide)
  have hne : ¬ ((U.ino I).holds - (j : Int) = 0) := by omega
  have e : (rN U I j).release (I : Int) = (0, (rN U I j).less (I : Int) 0 1) := by
    unfold BS.release
    rw [hi, if_neg (by decide), at_nat, rN_at, if_neg hne]
  rw [e]
  refine ⟨rfl, fun hl => ?_, fun hl => ?_⟩
  · unfold BS.less
    dsimp only
    rw [at_nat, rN_at]
    dsimp only
    rw [if_neg (by omega)]
    refine BS.ext' (fun k => ?_) rfl
    rw [put_nat, rN_ino, rN_ino]
    by_cases e : k = I
    · subst e
      rw [if_pos rfl, if_pos rfl]
      show Ino.mk _ _ _ _ _ _ _ _ = Ino.mk _ _ _ _ _ _ _ _
      rw [show (U.ino k).holds - (j : Int) - 1 = (U.ino k).holds - ((j + 1 : Nat) : Int) by omega, Int.sub_zero]
    · rw [if_neg e, if_neg e, if_neg e]
  · unfold BS.less
    dsimp only
    rw [at_nat, rN_at]
    dsimp only
    by_cases hz : (U.ino I).links - 0 = 0 ∧ (U.ino I).holds - (j : Int) - 1 = 0
    · rw [if_pos hz]
      refine .inr ⟨?_, by omega, ?_⟩
      · show (br.upd _ ((I : Int)).toNat _ I).kind = 0
        rw [Int.toNat_natCast, upd_same]; rfl
      · show (rN U I j).used - _ ≤ U.used
        exact Nat.sub_le _ _
    · rw [if_neg hz]
      refine .inl ⟨?_, by omega⟩
      rw [put_nat, if_pos rfl]; exact hk
theorem fileE_of {S : BS} {I : Nat} (h1 : 1 ≤ I) (h2 : I ≤ 200) (hk : (S.ino I).kind = 1) : S.fileE (I : Int) = 0 := by
  unfold BS.fileE
  rw [kind_of h1 h2, hk]; rfl
theorem readI_same {S U : BS} {I : Nat} (h1 : 1 ≤ I) (h2 : I ≤ 200) (hk : (S.ino I).kind = 1) (hu : (U.ino I).kind = 1) (hb : (U.ino I).body = (S.ino I).body) : readI U (I : Int) 0 65536 = readI S (I : Int) 0 65536 ∧ (readI S (I : Int) 0 65536).1 = 0 ∧ (U.at (I : Int)).body = (S.at (I : Int)).body ∧ (readI S (I : Int) 0 65536).2 ≤ 65536 := by
  unfold readI
  rw [fileE_of h1 h2 hk, fileE_of h1 h2 hu, if_neg (by decide), if_neg (by decide), at_nat, at_nat, hb]
  refine ⟨rfl, ?_, rfl, ?_⟩
  · unfold bl.readR; rw [if_neg (by decide)]
  · unfold bl.readR; rw [if_neg (by decide)]; exact Nat.le_trans (Nat.min_le_left _ _) (by decide)
/-- A row of bytes is kept where its block is. -/
theorem row_same {w w' : World} {lo n c : Nat} {A : Option Addr} {f : Nat → UInt8} {X : Nat → Prop} (h : bl.Row w lo A n c f) (hs : Same X w w') (hX : ∀ b, lo ≤ b → b < w.heap.size → X b) : bl.Row w' lo A n c f := by
  refine ⟨h.1, ?_⟩
  rcases h.2 with h0 | ⟨g, hg, e, hc⟩
  · exact .inl h0
  · exact .inr ⟨g, hg, e, (hs g (hX g hg (Array.getElem?_eq_some_iff.1 hc).1)).trans hc⟩
theorem row_below {w w' : World} {lo n c : Nat} {A : Option Addr} {f : Nat → UInt8} (h : bl.Row w lo A n c f) (hb : Below w.heap.size w w') : bl.Row w' lo A n c f :=
  row_same (X := fun b => b < w.heap.size) h (fun b h1 => hb.block b h1) (fun b _ h2 => h2)
end Go.Proofs.YtlelnpckbcpkkaaGreat.cb
