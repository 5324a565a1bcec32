/- Part 54 of what is known of the program's functions and of the document's words: contracts, and the mathematics beneath them. -/
import Derived.Test.YtpmpbmjjlccbbaaGreatProg
import Derived.Test.YtpmpbmjjlccbbaaGreatZ48
import Derived.Test.YtpmpbmjjlccbbaaGreatZ52
set_option linter.unusedVariables false
set_option linter.unusedSimpArgs false
set_option maxRecDepth 100000
set_option maxHeartbeats 8000000
namespace Go.Proofs.YtpmpbmjjlccbbaaGreat.tr
open Go.RowKit
open br (BS Inv Ino)
open wk (e0)
open ds (De Tb dz low lowV openT getV errV setT closeT spot full allT put)
theorem RVr_inj {r s : Res} (h : RVr r = RVr s) : r = s := by
 obtain ⟨e, n, b, k, z, l⟩ := r
 obtain ⟨e', n', b', k', z', l'⟩ := s
 unfold RVr RV at h
 dsimp only at h
 injection h with h
 injection h with h
 injection h with h1 h
 injection h with h2 h
 injection h with h3 h
 injection h with h4 h
 injection h with h5 h
 injection h with h6 h
 injection h1 with _ h1
 injection h2 with _ h2
 injection h3 with h3
 injection h4 with _ h4
 injection h5 with _ h5
 injection h6 with _ h6
 have h5' : z = z' := by omega
 subst h1 h2 h3 h4 h5' h6
 rfl
theorem getV_set {T : Tb} {fd : Int} {d d' : De} (hg : getV T fd = (d, 0)) : getV (setT T fd d') fd = (d', 0) := by
 obtain ⟨k, rfl, hk, hT, hs⟩ := spot_of hg
 have e : setT T (k : Int) d' = put T k (some d') := by unfold setT; rw [hs]; rfl
 rw [e]
 unfold getV spot
 rw [if_pos ⟨by omega, by omega⟩, Int.toNat_natCast, ds.put_same]
theorem fileD_of {T : Tb} {fd : Int} {d : De} (hg : getV T fd = (d, 0)) (hi : d.isd = false) : fileD T fd none = (d, 0) := fileD_yes hg hi rfl
theorem seek_tells {room : Nat} {y : Sy} (hd : Hd room y) (hl : Lim y.T) (fd off flag n : Int) :
  ((doSeek y ⟨7, fd, flag, 0, off, e0, e0⟩).1.e ≠ 0 → (doSeek y ⟨7, fd, flag, 0, off, e0, e0⟩).1.e = 9 ∨ (doSeek y ⟨7, fd, flag, 0, off, e0, e0⟩).1.e = 22) ∧
  ((doSeek y ⟨7, fd, flag, 0, off, e0, e0⟩).1.e = 0 → (0 ≤ (doSeek y ⟨7, fd, flag, 0, off, e0, e0⟩).1.n ∧ (doSeek y ⟨7, fd, flag, 0, off, e0, e0⟩).1.n ≤ 1099511627776) ∧ (flag = 0 → (doSeek y ⟨7, fd, flag, 0, off, e0, e0⟩).1.n = off) ∧
   ∃ q : Res, doRead (doSeek y ⟨7, fd, flag, 0, off, e0, e0⟩).2 ⟨5, fd, 0, n, (doSeek y ⟨7, fd, flag, 0, off, e0, e0⟩).1.n, e0, e0⟩ true = (q, (doSeek y ⟨7, fd, flag, 0, off, e0, e0⟩).2) ∧
    (doRead (doSeek y ⟨7, fd, flag, 0, off, e0, e0⟩).2 ⟨3, fd, 0, n, 0, e0, e0⟩ false).1 = q ∧ 0 ≤ q.n ∧ (doSeek y ⟨7, fd, flag, 0, off, e0, e0⟩).1.n + q.n ≤ 1099511627776 ∧
    (doSeek (doRead (doSeek y ⟨7, fd, flag, 0, off, e0, e0⟩).2 ⟨3, fd, 0, n, 0, e0, e0⟩ false).2 ⟨7, fd, 1, 0, 0, e0, e0⟩).1 = ⟨0, (doSeek y ⟨7, fd, flag, 0, off, e0, e0⟩).1.n + q.n, e0, (0, 0, 0)⟩) := by
 obtain ⟨fv, hfv⟩ : ∃ fv, fileD y.T fd none = fv := ⟨_, rfl⟩
 obtain ⟨d, e⟩ := fv
 by_cases he : e = 0
 case neg =>
  have h9 := fileD_err hfv he
  have hs := seek_err (c := ⟨7, fd, flag, 0, off, e0, e0⟩) hfv he
  rw [hs]
  exact ⟨fun _ => .inl h9, fun h => absurd h he⟩
 subst he
 have hs := seek_is (c := ⟨7, fd, flag, 0, off, e0, e0⟩) hfv
 obtain ⟨hg, hi⟩ := file_ok (T := y.T) (fd := fd) (k := none) (by rw [hfv])
 rw [hfv] at hg hi
 dsimp only at hg hi hs
 have hft := hd.get hg
 have hkd := hft.kindOf
 rw [hi, if_neg (by decide)] at hkd
 have hsz := size_lim hd.good hkd
 obtain ⟨-, -, -, -, -, hp0, -, hn0⟩ := hft
 obtain ⟨hp1, -, -⟩ := hl.get hg
 have hb0 : flag = 0 → seekB y ⟨7, fd, flag, 0, off, e0, e0⟩ d = 0 := fun h => by subst h; rfl
 generalize seekB y ⟨7, fd, flag, 0, off, e0, e0⟩ d = b at hs hb0
 by_cases hc : flag < 0 ∨ 2 < flag ∨ 1099511627776 - b < off ∨ off < 0 - b
 ·rw [if_pos hc] at hs
  rw [hs]
  exact ⟨fun _ => .inr rfl, fun h => absurd h (show ¬ ((22 : Int) = 0) by decide)⟩
 rw [if_neg hc] at hs
 have hr1 : 0 ≤ b + off ∧ b + off ≤ 1099511627776 := by omega
 rw [hs]
 refine ⟨fun h => absurd rfl h, fun _ => ⟨hr1, fun h => by show b + off = off; rw [hb0 h]; omega, ?_⟩⟩
 dsimp only
 obtain ⟨rn, hrn⟩ : ∃ rn, b + off = rn := ⟨_, rfl⟩
 rw [hrn] at hr1 ⊢
 clear hs hc hb0 hrn
 obtain ⟨d', hd'⟩ : ∃ d' : De, d' = { d with off := rn } := ⟨_, rfl⟩
 have hdo : d'.off = rn := by rw [hd']
 have hdi : d'.isd = false := by rw [hd']; exact hi
 rw [← hd']
 have hg1 : getV (setT y.T fd d') fd = (d', 0) := getV_set hg
 obtain ⟨y1, hy1⟩ : ∃ y1 : Sy, y1 = ⟨y.S, setT y.T fd d'⟩ := ⟨_, rfl⟩
 have hgy : getV y1.T fd = (d', 0) := by rw [hy1]; exact hg1
 have hG1 : br.Good y1.S room := by rw [hy1]; exact hd.good
 rw [← hy1]
 clear hy1 hg1
 have again : ∀ (y3 : Sy) (d3 : De), getV y3.T fd = (d3, 0) → d3.isd = false → 0 ≤ d3.off → d3.off ≤ 1099511627776 → (doSeek y3 ⟨7, fd, 1, 0, 0, e0, e0⟩).1 = ⟨0, d3.off, e0, (0, 0, 0)⟩ := fun y3 d3 g3 i3 o1 o2 => by
  rw [seek_is (c := ⟨7, fd, 1, 0, 0, e0, e0⟩) (fileD_of g3 i3)]
  have hB : seekB y3 ⟨7, fd, 1, 0, 0, e0, e0⟩ d3 = d3.off := rfl
  rw [hB]
  dsimp only
  rw [if_neg (by omega), Int.add_zero]
 obtain ⟨gv, hgv⟩ : ∃ gv, fileD y1.T fd (some 0) = gv := ⟨_, rfl⟩
 obtain ⟨d2, e2⟩ := gv
 by_cases he2 : e2 = 0
 case neg =>
  have h5 := read_err (c := ⟨5, fd, 0, n, rn, e0, e0⟩) (p := true) hgv he2
  have h3 := read_err (c := ⟨3, fd, 0, n, 0, e0, e0⟩) (p := false) hgv he2
  refine ⟨wrong e2, h5, by rw [h3], Int.le_refl 0, by show rn + 0 ≤ _; omega, ?_⟩
  rw [h3, again y1 d' hgy hdi (by omega) (by omega), hdo]
  show (⟨0, rn, e0, (0, 0, 0)⟩ : Res) = ⟨0, rn + 0, e0, (0, 0, 0)⟩
  rw [Int.add_zero]
 subst he2
 obtain ⟨g2, i2⟩ := file_ok (T := y1.T) (fd := fd) (k := some 0) (by rw [hgv])
 rw [hgv] at g2 i2
 dsimp only at g2 i2
 have hdd : d2 = d' := by rw [hgy] at g2; injection g2 with g2; exact g2.symm
 subst hdd
 have t5 := read_take (c := ⟨5, fd, 0, n, rn, e0, e0⟩) (p := true) hgv
 have t3 := read_take (c := ⟨3, fd, 0, n, 0, e0, e0⟩) (p := false) hgv
 have hnn := read_nn hG1 (c := ⟨3, fd, 0, n, 0, e0, e0⟩) (p := false) hgv (by omega) (by omega) rfl
 have hq : (doRead y1 ⟨5, fd, 0, n, rn, e0, e0⟩ true).1 = (doRead y1 ⟨3, fd, 0, n, 0, e0, e0⟩ false).1 := by
  apply RVr_inj
  rw [← t5.1, ← t3.1]
  show takeV y1.S d2.ino rn n = takeV y1.S d2.ino d2.off n
  rw [hdo]
 refine ⟨(doRead y1 ⟨3, fd, 0, n, 0, e0, e0⟩ false).1, Prod.ext hq (t5.2.1 rfl), rfl, hnn.1, by rw [← hdo]; exact hnn.2, ?_⟩
 have h3 := t3.2.2 rfl
 rw [h3]
 dsimp only at hnn ⊢
 generalize (doRead y1 ⟨3, fd, 0, n, 0, e0, e0⟩ false).1.n = m at *
 rw [again _ { d2 with off := d2.off + m } (getV_set hgy) hdi (by show 0 ≤ d2.off + m; omega) hnn.2]
 show (⟨0, d2.off + m, e0, (0, 0, 0)⟩ : Res) = _
 rw [hdo]
end Go.Proofs.YtpmpbmjjlccbbaaGreat.tr
