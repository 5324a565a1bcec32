/- A tree: what is appended is read behind what was there. -/
import Derived.Test.YtpmpbmjjlccbbaaGreatTu
import Derived.Test.YtpmpbmjjlccbbaaGreatZ40
import Derived.Laws.Strings3
import Derived.Laws.Concat
namespace Go.Proofs.YtpmpbmjjlccbbaaGreat.tr
open Go.Proofs.YtpmpbmjjlccbbaaGreat.br (BS Inv Ino)
open Go.Proofs.YtpmpbmjjlccbbaaGreat.wk (e0)
open Go.Proofs.YtpmpbmjjlccbbaaGreat.cb (readI WrI)
open Go.Proofs.YtpmpbmjjlccbbaaGreat.ds (De Tb low lowV openT getV setT closeT full spot put)
set_option linter.unusedVariables false
set_option linter.unusedSimpArgs false

theorem apd_getV_set {T : Tb} {fd : Int} {d d' : De} (hg : getV T fd = (d, 0)) : getV (setT T fd d') fd = (d', 0) := by
  obtain ⟨k, rfl, hk, hT, hs⟩ := spot_of hg
  have e : setT T (k : Int) d' = put T k (some d') := by unfold setT; rw [hs]; rfl
  rw [e]
  unfold getV spot
  rw [if_pos ⟨by omega, by omega⟩, Int.toNat_natCast, ds.put_same]
theorem apd_getV_new {T : Tb} {d : De} (h : full T = false) : getV (openT T d) (lowV T).1 = (d, 0) := by
  unfold full at h
  unfold openT lowV
  cases hl : low T with
  | none => rw [hl] at h; exact absurd h (by decide)
  | some k =>
    obtain ⟨h1, _, _⟩ := ds.low_some hl
    show getV (put T k (some d)) (k : Int) = (d, 0)
    unfold getV spot
    rw [if_pos ⟨by omega, by omega⟩, Int.toNat_natCast, ds.put_same]
theorem fileE_nat {S : BS} {I : Nat} (h1 : 1 ≤ I) (h2 : I ≤ 200) (hk : (S.ino I).kind = 1) : S.fileE (I : Int) = 0 := by
  unfold BS.fileE BS.kindOf BS.isI
  rw [br.at_nat, hk]
  simp [h1, h2]
  omega
/-- fd is a file's descriptor, to read, to write and to append; the file's bytes are bs. -/
def Apd (y : Sy) (fd : Int) (bs : List UInt8) : Prop := ∃ (d : De) (I : Nat), getV y.T fd = (d, 0) ∧ d.isd = false ∧ d.flag = 39 ∧ d.ino = (I : Int) ∧ 1 ≤ I ∧ I ≤ 200 ∧ (y.S.ino I).kind = 1 ∧ (y.S.ino I).body.Ok ∧
  (y.S.ino I).body.size = bs.length ∧ ∀ j, j < bs.length → (y.S.ino I).body.dat j = bs.getD j 0
section
variable {room : Nat} {y y' : Sy} {fd : Int} {bs : List UInt8} {r : Res}
theorem apd_any (h : Hd room y) {d : De} (hg : getV y.T fd = (d, 0)) (hi : d.isd = false) (hf : d.flag = 39) : ∃ bs, Apd y fd bs := by
  obtain ⟨I, e, h1, h2, h3, _⟩ := h.get hg
  rw [hi, if_neg (by decide)] at h3
  refine ⟨(List.range (y.S.ino I).body.size).map (y.S.ino I).body.dat, d, I, hg, hi, hf, e, h1, h2, h3, h.good.1.body I, by simp, fun j hj => ?_⟩
  have hj2 : j < (y.S.ino I).body.size := by simpa using hj
  simp [List.getD, List.getElem?_range hj2]
theorem open_made {c : Cal} (h : (r, y') = doOpen y c) (he : r.e = 0) : ∃ i : Int, r.n = (lowV y.T).1 ∧ full y.T = false ∧ y'.T = openT y.T ⟨i, c.flag, 0, false, [], 0⟩ := by
  have hw : ∀ {e : Int} {z : Sy}, e ≠ 0 → (r, y') = (wrong e, z) → False := fun hne h2 => by
    injection h2 with h2 _
    rw [h2] at he
    exact hne he
  have hino : ∀ {z : Sy} {i : Int}, (r, y') = openIno z i c.flag → full y.T = false → z.T = y.T → ∃ i : Int, r.n = (lowV y.T).1 ∧ full y.T = false ∧ y'.T = openT y.T ⟨i, c.flag, 0, false, [], 0⟩ := fun {z i} h2 hf hz => by
    unfold openIno at h2
    split at h2
    · exact (hw (by decide) h2).elim
    · split at h2
      · exact (hw (by decide) h2).elim
      · unfold opened at h2
        injection h2 with h3 h4
        refine ⟨i, ?_, hf, ?_⟩
        · rw [h3]; show (lowV z.T).1 = _; rw [hz]
        · rw [h4]; show openT z.T _ = _; rw [hz]
  unfold doOpen at h
  dsimp only at h
  split at h
  · exact (hw (by decide) h).elim
  · split at h
    · exact (hw (by decide) h).elim
    · rename_i hfull
      have hf : full y.T = false := by simpa using hfull
      split at h
      · split at h
        · exact (hw (by decide) h).elim
        · split at h
          · rename_i hm
            exact (hw hm h).elim
          · exact hino h hf rfl
      · split at h
        · rename_i hm
          exact (hw hm h).elim
        · split at h
          · exact (hw (by decide) h).elim
          · exact hino h hf rfl
theorem apd_open {c : Cal} (h : (r, y') = doOpen y c) (he : r.e = 0) (hc : c.flag = 39) (hd : Hd room y') : ∃ bs, Apd y' r.n bs := by
  obtain ⟨i, h1, h2, h3⟩ := open_made h he
  refine apd_any hd (d := ⟨i, c.flag, 0, false, [], 0⟩) ?_ rfl hc
  rw [h1, h3]
  exact apd_getV_new h2
theorem apd_read (h : Apd y fd bs) : doRead y ⟨5, fd, 0, 65536, 0, e0, e0⟩ true = (⟨0, (bs.length : Int), ⟨bs.toArray⟩, (0, 0, 0)⟩, y) := by
  obtain ⟨d, I, hg, hi, hf, hI, h1, h2, hk, hok, hs, hb⟩ := h
  have hfd : fileD y.T fd (some 0) = (d, 0) := fileD_yes hg hi (by unfold kB; rw [hf]; decide)
  have hsz := hok.size
  have hq : readI y.S (I : Int) 0 65536 = (0, bs.length) := by
    unfold readI
    rw [if_neg (by rw [fileE_nat h1 h2 hk]; decide), br.at_nat]
    unfold bl.readR
    rw [if_neg (by decide), hs]
    congr 1
    have : (65536 : Int).toNat = 65536 := rfl
    rw [this]
    omega
  unfold doRead
  dsimp only
  rw [hfd]
  dsimp only
  rw [if_neg (by decide), if_neg (by simp), hI]
  simp only [if_true, if_neg (show ¬ ((65536 : Int) < 65536) by decide)]
  rw [hq]
  rw [if_neg (by simp)]
  congr 2
  congr 1
  apply congrArg List.toArray
  apply List.ext_getElem
  · simp [hq]
  · intro j g1 g2
    rw [List.getElem_ofFn]
    have := hb j g2
    show (y.S.at (I : Int)).body.dat ((0 : Int).toNat + j) = bs[j]
    rw [br.at_nat, show (0 : Int).toNat + j = j by simp, this, List.getD, List.getElem?_eq_getElem g2]
    rfl
theorem apd_seek (h : Apd y fd bs) : ∃ z, doSeek y ⟨7, fd, 0, 0, 0, e0, e0⟩ = z ∧ z.1.e = 0 ∧ Apd z.2 fd bs ∧ z.2.S = y.S := by
  obtain ⟨d, I, hg, hi, hf, hI, h1, h2, hk, hok, hs, hb⟩ := h
  have hfd : fileD y.T fd none = (d, 0) := fileD_yes hg hi rfl
  refine ⟨_, rfl, ?_⟩
  unfold doSeek
  dsimp only
  rw [hfd]
  dsimp only
  rw [if_neg (by decide), if_neg (by simp), if_neg (show ¬ ((0 : Int) = 1) by decide), if_neg (show ¬ ((0 : Int) = 2) by decide)]
  exact ⟨rfl, ⟨{ d with off := 0 + 0 }, I, apd_getV_set hg, hi, hf, hI, h1, h2, hk, hok, hs, hb⟩, rfl⟩
theorem apd_write {x : ByteArray} (h : Apd y fd bs) (hu : y.S.used ≤ 61000) (hw : DoWrite 65536 y ⟨4, fd, 0, 0, 0, x, e0⟩ false r y') :
    (r.e = 27 ∧ y' = y) ∨ (r.e = 0 ∧ ∃ p : Nat, p ≤ x.size ∧ r.n = (p : Int) ∧ Apd y' fd (bs ++ x.data.toList.take p)) := by
  obtain ⟨d, I, hg, hi, hf, hI, h1, h2, hk, hok, hs, hb⟩ := h
  have hfd : fileD y.T fd (some 1) = (d, 0) := fileD_yes hg hi (by unfold kB; rw [hf]; decide)
  have hsz := hok.size
  unfold DoWrite at hw
  dsimp only at hw
  rw [hfd] at hw
  dsimp only at hw
  rw [if_neg (by decide)] at hw
  obtain ⟨q, e, S', hwr, g1, g2⟩ := hw
  have hisI : y.S.isI (I : Int) = true := by
    unfold BS.isI
    rw [br.at_nat, hk]
    exact decide_eq_true ⟨by omega, by omega, by decide⟩
  have hat : writeAt y ⟨4, fd, 0, 0, 0, x, e0⟩ false d = (bs.length : Int) := by
    unfold writeAt
    rw [if_neg (by decide), if_pos (by rw [hf]; decide), hI]
    unfold BS.stat
    rw [hisI]
    rw [if_pos rfl]
    dsimp only
    unfold Ino.sizeOf
    rw [br.at_nat, hk, if_pos rfl, hs]
  rw [hat, hI] at hwr
  rcases hwr with ⟨k1, _⟩ | ⟨_, k2, _, k4, rfl⟩
  · exact absurd (fileE_nat h1 h2 hk) k1
  rw [br.at_nat] at k2 k4
  have hdone : e = 0 → q ≤ x.size → bs.length + q ≤ 65536 → (r.e = 27 ∧ y' = y) ∨ (r.e = 0 ∧ ∃ p : Nat, p ≤ x.size ∧ r.n = (p : Int) ∧ Apd y' fd (bs ++ x.data.toList.take p)) := fun he hq hlen => by
    obtain ⟨hr, hy⟩ := g2 he
    refine .inr ⟨by rw [hr], q, hq, by rw [hr], ?_⟩
    rw [hat, if_neg (by decide)] at hy
    have hxl : (x.data.toList.take q).length = q := by rw [List.length_take, Array.length_toList]; show min q x.size = q; omega
    have hino : (y.S.wrote (d.ino) (bs.length : Int) q (fun j => x.data[j]?.getD 0)).ino I = { y.S.ino I with body := bl.wr (y.S.ino I).body (bs.length : Int) q (fun j => x.data[j]?.getD 0) } := by
      unfold BS.wrote
      rw [hI, br.at_nat]
      show br.upd _ ((I : Int)).toNat _ I = _
      rw [Int.toNat_natCast, br.upd_same]
    rw [hy]
    rw [← hI]
    refine ⟨{ d with off := (bs.length : Int) + (q : Int) }, I, apd_getV_set hg, hi, hf, hI, h1, h2, ?_, ?_, ?_, ?_⟩
    · dsimp only; rw [hino]; exact hk
    · dsimp only; rw [hino]; exact k4
    · dsimp only
      rw [hino, List.length_append, hxl]
      show (if q = 0 then (y.S.ino I).body.size else max (y.S.ino I).body.size ((bs.length : Int).toNat + q)) = _
      rw [hs]
      split
      · omega
      · rw [Int.toNat_natCast]; omega
    · intro j hj
      rw [List.length_append, hxl] at hj
      dsimp only
      rw [hino]
      show bl.over (y.S.ino I).body.dat (bs.length : Int).toNat q (fun j => x.data[j]?.getD 0) j = _
      rw [Int.toNat_natCast]
      unfold bl.over
      by_cases hjb : j < bs.length
      · rw [if_neg (by omega), hb j hjb, List.getD, List.getD, List.getElem?_append_left hjb]
      · rw [if_pos (by omega), List.getD, List.getElem?_append_right (by omega), List.getElem?_take_of_lt (by omega), Array.getElem?_toList]
  rcases k2 with ⟨a, _⟩ | ⟨_, a, b, c⟩ | ⟨a, b, c, dd⟩ | ⟨a, b, c, st, ee⟩
  · omega
  · exact hdone c (by omega) (by omega)
  · subst dd
    obtain ⟨hr, hy⟩ := g1 (by decide)
    exact .inl ⟨by rw [hr]; rfl, hy⟩
  · rw [Int.toNat_natCast] at st
    have hqT : q = min x.size (65536 - bs.length) := by
      rcases st.stop with h | h
      · exact h
      · exfalso
        apply h
        refine .inr ?_
        have hle := st.le
        have := thW_cnt (y.S.ino I).body bs.length q
        unfold bl.usedW
        have hn : bl.AB.n (y.S.ino I).body = bl.cnt 4096 (y.S.ino I).body.th := rfl
        omega
    have hq0 : q ≠ 0 := by omega
    rw [if_neg hq0] at ee
    exact hdone ee (by omega) (by omega)
end
theorem apd_len {y : Sy} {fd : Int} {bs : List UInt8} (h : Apd y fd bs) : bs.length ≤ 65536 := by
  obtain ⟨d, I, _, _, _, _, _, _, _, hok, hs, _⟩ := h
  have := hok.size
  omega
theorem joined (bs : List UInt8) (x z : ByteArray) (p r : Nat) : (⟨bs.toArray⟩ ++ x.extract 0 p ++ z.extract 0 r : ByteArray) = ⟨(bs ++ x.data.toList.take p ++ z.data.toList.take r).toArray⟩ := by
  apply ByteArray.ext
  apply Array.ext'
  simp [ByteArray.data_append, ByteArray.data_extract]
theorem cut_run (t : ByteArray) (p : Nat) (h : p ≤ t.size) (W : World) : (Instr.slice 9 (.string t) none (some (.int .i64 (p : Int))) none).run Tryz.prog W = .ok (.string (t.extract 0 p)) W := by
  rw [run_slice_string_to_if W 9 t .i64 (p : Int) Tryz.underlying9, if_pos ⟨by omega, by omega⟩, Int.toNat_natCast]
theorem cut_len (t : ByteArray) (p : Nat) : (t.extract 0 p).size ≤ t.size := by
  rw [ByteArray.size_extract]
  omega
end Go.Proofs.YtpmpbmjjlccbbaaGreat.tr
