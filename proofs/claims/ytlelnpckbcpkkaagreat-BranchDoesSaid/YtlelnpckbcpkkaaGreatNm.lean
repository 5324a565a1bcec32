/- Two names of one file tell one file. -/
import Derived.Test.YtlelnpckbcpkkaaGreatMv
namespace Go.Proofs.YtlelnpckbcpkkaaGreat.cb
open Go.RowKit
open Go.Proofs.YtlelnpckbcpkkaaGreat.br
open Go.Proofs.YtlelnpckbcpkkaaGreat.dn (En nerr lget lset ldel dotB Sorted lget_some lget_none ldel_mem ldel_sorted lset_mem lset_sorted)
open Go.Proofs.YtlelnpckbcpkkaaGreat.bl (AB Pq U8 wr wrB WR strF strF_eq over)
set_option linter.unusedVariables false
set_option linter.unusedSimpArgs false

theorem stat_of {S : BS} {I : Nat} (h1 : 1 ≤ I) (h2 : I ≤ 200) (hk : (S.ino I).kind ≠ 0) : S.stat (I : Int) = (((S.ino I).kind, (S.ino I).sizeOf, (S.ino I).links), 0) := by
  have hI : S.isI (I : Int) = true := by
    unfold BS.isI
    rw [at_nat]
    simp only [decide_eq_true_eq]
    exact ⟨by omega, by omega, hk⟩
  unfold BS.stat
  rw [if_pos hI, at_nat]
/-- A name more. -/
theorem names_of {S : BS} {room : Nat} (hG : br.Good S room) {t i : Int} {u : ByteArray} (h : (S.link t u i).1 = 0) :
    ∃ I : Nat, i = (I : Int) ∧ 1 ≤ I ∧ I ≤ 200 ∧ 1 ≤ (S.ino I).kind ∧ (S.ino I).kind ≠ 2 ∧ (S.ino I).kind ≤ 4 ∧ 1 ≤ (S.ino I).links ∧ (S.ino I).links ≤ 19 ∧ (S.link t u i).2.ino I = { S.ino I with links := (S.ino I).links + 1 } ∧ (S.link t u i).2.get t u = (i, 0) := by
  unfold BS.link at h ⊢
  by_cases e1 : S.vacant t u = 0
  case neg => exfalso; rw [if_pos e1] at h; exact e1 h
  rw [if_neg (by simpa using e1)] at h ⊢
  by_cases e2 : S.isI i = false ∨ (S.at i).links = 0
  · rw [if_pos e2] at h; cases h
  rw [if_neg e2] at h ⊢
  have hi : S.isI i = true := by
    cases hb : S.isI i
    · exact absurd (.inl hb) e2
    · rfl
  obtain ⟨I, rfl, i1, i2, i3⟩ := isI_yes hi
  rw [at_nat] at *
  by_cases e3 : (S.ino I).kind = 2
  · rw [if_pos e3] at h; cases h
  rw [if_neg e3] at h ⊢
  by_cases e4 : 20 ≤ (S.ino I).links
  · rw [if_pos e4] at h; cases h
  rw [if_neg e4]
  obtain ⟨T, rfl, t1, t2, tk, tl, hg, hs⟩ := vacant_ok e1
  have hne : I ≠ T := fun e => e3 (by rw [e]; exact tk)
  have hk := hG.1.kinds I
  have hn := (hG.1.nums I).1
  have hl : (S.ino I).links ≠ 0 := fun e => e2 (.inr e)
  have e5 : (S.put (I : Int) { S.ino I with links := (S.ino I).links + 1 }).at (T : Int) = S.ino T := by rw [at_nat, put_nat, if_neg (fun e => hne e.symm)]
  dsimp only
  unfold BS.putDir
  rw [e5]
  refine ⟨I, rfl, i1, i2, by omega, e3, hk.2, by omega, by omega, ?_, ?_⟩
  · rw [put_nat, if_neg hne, put_nat, if_pos rfl]
  · refine get_of t1 t2 ?_ ?_
    · rw [put_nat, if_pos rfl]; exact tk
    · rw [put_nat, if_pos rfl]; exact lget_lset (hG.1.sorted T)
/-- What is written at the beginning is read: of a file with room. -/
theorem wrote_read {S S' : BS} {room I len p : Nat} {f : Nat → UInt8} {err : Int} (i1 : 1 ≤ I) (i2 : I ≤ 200) (hk : (S.ino I).kind = 1) (hw : WrI S room (I : Int) 0 len f p err S') :
    p ≤ len ∧ (err = 0 ∨ err = 28) ∧ readI S' (I : Int) 0 (p : Int) = (0, p) ∧ ∀ j, j < p → (S'.at (I : Int)).body.dat ((0 : Int).toNat + j) = f j := by
  have hf : S.fileE (I : Int) = 0 := by
    unfold BS.fileE BS.kindOf BS.isI
    rw [at_nat, hk]
    simp [i1, i2]
    omega
  rcases hw with ⟨h1, _⟩ | ⟨_, h2, _, _, rfl⟩
  · exact absurd hf h1
  · have e2 : (S.wrote (I : Int) 0 p f).ino I = { S.ino I with body := wr (S.ino I).body 0 p f } := by
      show br.upd _ ((I : Int)).toNat _ I = _
      rw [Int.toNat_natCast, upd_same, at_nat]
    have hf2 : (S.wrote (I : Int) 0 p f).fileE (I : Int) = 0 := by
      unfold BS.fileE BS.kindOf BS.isI
      rw [at_nat, e2]
      simp [hk, i1, i2]
      omega
    have hp : p ≤ len ∧ (err = 0 ∨ err = 28) := by
      rcases h2 with ⟨a, _, _⟩ | ⟨_, _, b, c⟩ | ⟨a, _, _, _⟩ | ⟨_, _, _, b, c⟩
      · omega
      · exact ⟨by omega, .inl c⟩
      · omega
      · refine ⟨by have := b.le; omega, ?_⟩
        split at c
        · exact .inr c
        · exact .inl c
    refine ⟨hp.1, hp.2, ?_, fun j hj => ?_⟩
    · unfold readI
      rw [if_neg (by omega), at_nat, e2]
      unfold bl.readR
      rw [if_neg (by omega)]
      show ((0 : Int), min p ((if p = 0 then _ else max (S.ino I).body.size ((0 : Int).toNat + p)) - (0 : Int).toNat)) = _
      congr 1
      split <;> simp <;> omega
    · rw [at_nat, e2]
      show over (S.ino I).body.dat (0 : Int).toNat p f _ = _
      unfold over
      rw [if_pos (by simp; omega)]
      congr 1
      omega
/-- What is no file is not written. -/
theorem write_no {S S' : BS} {room I len p : Nat} {f : Nat → UInt8} {err : Int} (i1 : 1 ≤ I) (i2 : I ≤ 200) (hk : (S.ino I).kind ≠ 1) (h0 : (S.ino I).kind ≠ 0) (h2 : (S.ino I).kind ≠ 2) (hw : WrI S room (I : Int) 0 len f p err S') : p = 0 ∧ err = 22 := by
  have hf : S.fileE (I : Int) = 22 := by
    have hI : S.isI (I : Int) = true := by
      unfold BS.isI
      rw [at_nat]
      simp only [decide_eq_true_eq]
      exact ⟨by omega, by omega, h0⟩
    unfold BS.fileE BS.kindOf
    rw [if_pos hI, at_nat, if_neg h0, if_neg h2, if_neg hk]
  rcases hw with ⟨_, e1, e2, _⟩ | ⟨h1, _⟩
  · exact ⟨e1, by rw [e2, hf]⟩
  · rw [hf] at h1; cases h1
theorem sub_str (dt : ByteArray) (p : Nat) (h : p ≤ dt.size) (g : Nat → UInt8) (hg : ∀ j, j < p → g j = sF dt j) : strF p g = dt.extract 0 p := by
  rw [strF_eq.2 ⟨rfl, hg⟩]
  unfold strF sF
  have hs : p ≤ dt.data.size := h
  refine ByteArray.ext (Array.ext (by simp; omega) fun i h1 h2 => ?_)
  have hi : i < p := by simpa using h1
  have hl : i < dt.data.size := by omega
  simp [List.getD_eq_getElem?_getD, Array.getElem?_eq_getElem hl]
/-- A box of three cells of the call's own. -/
structure Bx3 (w : World) (b : Nat) (v0 v1 v2 : Value) : Prop where
  c0 : w.cell? ⟨b, 0, none⟩ = some v0
  c1 : w.cell? ⟨b, 1, none⟩ = some v1
  c2 : w.cell? ⟨b, 2, none⟩ = some v2
theorem Bx3.new (w : World) (v0 v1 v2 : Value) (t : TypeId) : Bx3 (w.alloc (.cells #[v0, v1, v2] t)) w.heap.size v0 v1 v2 := ⟨by simp, by simp, by simp⟩
theorem Bx3.lt {w : World} {b : Nat} {v0 v1 v2 : Value} (h : Bx3 w b v0 v1 v2) : b < w.heap.size := World.block_lt_of_cell? w _ h.c0
theorem Bx3.block {w w' : World} {b : Nat} {v0 v1 v2 : Value} (h : Bx3 w b v0 v1 v2) (hb : w'.heap[b]? = w.heap[b]?) : Bx3 w' b v0 v1 v2 :=
  ⟨(World.cell?_of_block (a := ⟨b, 0, none⟩) hb).trans h.c0, (World.cell?_of_block (a := ⟨b, 1, none⟩) hb).trans h.c1, (World.cell?_of_block (a := ⟨b, 2, none⟩) hb).trans h.c2⟩
theorem Bx3.below {w w' : World} {b : Nat} {v0 v1 v2 : Value} (h : Bx3 w b v0 v1 v2) (hb : Below w.heap.size w w') : Bx3 w' b v0 v1 v2 := h.block (hb.block _ h.lt)
theorem Bx3.same {w w' : World} {b : Nat} {X : Nat → Prop} {v0 v1 v2 : Value} (h : Bx3 w b v0 v1 v2) (hs : Same X w w') (hx : X b) : Bx3 w' b v0 v1 v2 := h.block (hs b hx)
/-- A branch beside blocks of the call's own that came last. -/
theorem BrX.beside {w0 w w' : World} {P room T : Nat} {X Y : Nat → Prop} {S : BS} (h : BrX w0 w P X S room T) (hb : Below w.heap.size w w') (hy : ∀ b, Y b → X b ∨ (w.heap.size ≤ b ∧ b < w'.heap.size)) : BrX w0 w' P Y S room T :=
  (h.over hb).sub fun b hY => by rcases hy b hY with h1 | h1
                                 · exact .inl h1
                                 · exact .inr (.inl h1)
theorem x_dataX {w0 w w1 : World} {P room T : Nat} {X : Nat → Prop} {S : BS} {s : ByteArray} {c : Nat} (h : BrX w0 w P X S room T) (hc : s.size ≤ c) (hm : c ≤ maxLen) (hb : Below w.heap.size w w1) (hlt : w.heap.size < w1.heap.size) (hf : ∀ j, j < s.size → w1.cell? ⟨w.heap.size, 0 + j, none⟩ = some (U8 (sF s j))) (i off : Int) :
    Calls Tryz.prog 33 #[Pq P, .int .i64 i, .int .i64 off, .slice (some ⟨w.heap.size, 0, none⟩) s.size c] w1 (fun e w' => ∃ p err S', WrI S room i off s.size (sF s) p err S' ∧ e = .returned (.tuple #[.int .i64 (p : Int), .int .i64 err]) ∧ BrX w0 w' P X S' room (T + 1) ∧ Same X w1 w') :=
  (x_write (h.over hb) i off _ s.size c (sF s) (fun j hj => ⟨w.heap.size, 0, rfl, .inr (.inl ⟨Nat.le_refl _, hlt⟩), hf j hj⟩) hc hm).mono fun _ _ ⟨p, err, S', h1, h2, h3, h4⟩ => ⟨p, err, S', h1, h2, h3.sub fun _ hb => .inl hb, fun b hb => h4 b (.inl hb)⟩
end Go.Proofs.YtlelnpckbcpkkaaGreat.cb
