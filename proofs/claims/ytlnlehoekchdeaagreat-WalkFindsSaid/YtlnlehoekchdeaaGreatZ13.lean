/- A branch as the document tells it: what holds of every branch, and that its directories hang together, stays through every call. The numbers that are free, as a list in order. 'Set' of a directory: what becomes of the row. 'Set' of a directory: a name that isn't there; all of it. -/
import Derived.Test.YtlnlehoekchdeaaGreatZ12
import Derived.Test.YtlnlehoekchdeaaGreatZ03
import Derived.Test.YtlnlehoekchdeaaGreatZ07
section
namespace Go.Proofs.YtlnlehoekchdeaaGreat.br
open Go.RowKit
open Go.Proofs.YtlnlehoekchdeaaGreat.dn (En lget lset ldel nerr dotB Sorted lget_some lget_none ldel_mem ldel_sorted lset_mem lset_sorted)
open Go.Proofs.YtlnlehoekchdeaaGreat.bl (AB cut cutR cutB readR WR wr)
set_option linter.unusedVariables false

def Good (S : BS) (room : Nat) : Prop := Inv S room ∧ Tree S
theorem Good.fresh (room : Nat) : Good fresh room :=
  ⟨Inv.fresh room, fun _ => 0, fun k hk _ h1 => by rw [fresh_ino, if_neg h1] at hk; cases hk⟩
theorem at_nat (S : BS) (k : Nat) : S.at (k : Int) = S.ino k := by show S.ino ((k : Int)).toNat = _; rw [Int.toNat_natCast]
theorem put_nat (S : BS) (i : Nat) (x : Ino) (k : Nat) : (S.put (i : Int) x).ino k = if k = i then x else S.ino k := by
  show upd S.ino ((i : Int)).toNat x k = _
  rw [Int.toNat_natCast]; rfl
theorem isI_yes {S : BS} {i : Int} (h : S.isI i = true) : ∃ I : Nat, i = (I : Int) ∧ 1 ≤ I ∧ I ≤ 200 ∧ (S.ino I).kind ≠ 0 := by
  unfold BS.isI at h
  obtain ⟨h1, h2, h3⟩ := of_decide_eq_true h
  exact ⟨i.toNat, by omega, by omega, by omega, h3⟩
theorem dirE_ok {S : BS} {d : Int} {c : Bool} (h : S.dirE d c = 0) : ∃ D : Nat, d = (D : Int) ∧ 1 ≤ D ∧ D ≤ 200 ∧ (S.ino D).kind = 2 ∧ (c = true → (S.ino D).links ≠ 0) := by
  unfold BS.dirE at h
  cases hi : S.isI d
  · rw [if_pos hi] at h; cases h
  · rw [if_neg (by rw [hi]; decide)] at h
    obtain ⟨D, rfl, h1, h2, h3⟩ := isI_yes hi
    rw [at_nat] at h
    by_cases hk : (S.ino D).kind = 2
    · rw [if_neg (by simpa using hk)] at h
      refine ⟨D, rfl, h1, h2, hk, fun hc hl => ?_⟩
      rw [if_pos ⟨hc, hl⟩] at h; cases h
    · rw [if_pos hk] at h; cases h
theorem nameE_ok {s : ByteArray} (h : nameE s = 0) : nerr s.data.toList = 0 ∧ dotB s = false := by
  unfold nameE at h
  by_cases e : nerr s.data.toList = 0 ∧ dotB s = true
  · rw [if_pos e] at h; cases h
  · rw [if_neg e] at h
    refine ⟨h, ?_⟩
    cases hd : dotB s
    · rfl
    · exact absurd ⟨h, hd⟩ e
theorem get_ok {S : BS} {d : Int} {s : ByteArray} (h : (S.get d s).2 = 0) : ∃ D : Nat, d = (D : Int) ∧ 1 ≤ D ∧ D ≤ 200 ∧ (S.ino D).kind = 2 ∧ lget s (S.ino D).dir = some (S.get d s).1 := by
  unfold BS.get at h ⊢
  by_cases e : S.dirE d false = 0
  · rw [if_neg (by simpa using e)] at h ⊢
    obtain ⟨D, rfl, h1, h2, h3, _⟩ := dirE_ok e
    rw [at_nat] at h ⊢
    refine ⟨D, rfl, h1, h2, h3, ?_⟩
    cases hg : lget s (S.ino D).dir
    · rw [hg] at h; cases h
    · rfl
  · rw [if_pos e] at h; exact absurd h e
theorem vacant_ok {S : BS} {d : Int} {s : ByteArray} (h : S.vacant d s = 0) : ∃ D : Nat, d = (D : Int) ∧ 1 ≤ D ∧ D ≤ 200 ∧ (S.ino D).kind = 2 ∧ (S.ino D).links ≠ 0 ∧ lget s (S.ino D).dir = none ∧ nerr s.data.toList = 0 ∧ dotB s = false := by
  unfold BS.vacant at h
  by_cases e : S.dirE d true = 0
  · rw [if_neg (by simpa using e)] at h
    by_cases e2 : nameE s = 0
    · rw [if_neg (by simpa using e2)] at h
      obtain ⟨D, rfl, h1, h2, h3, h4⟩ := dirE_ok e
      rw [at_nat] at h
      refine ⟨D, rfl, h1, h2, h3, h4 rfl, ?_, nameE_ok e2⟩
      cases hg : lget s (S.ino D).dir
      · rfl
      · rw [hg] at h; cases h
    · rw [if_pos e2] at h; exact absurd h e2
  · rw [if_pos e] at h; exact absurd h e
theorem free_spec (S : BS) (n k : Nat) : k ≤ S.free k n ∧ S.free k n ≤ k + n ∧ (S.free k n < k + n → (S.ino (S.free k n)).kind = 0) ∧ ∀ j, k ≤ j → j < S.free k n → (S.ino j).kind ≠ 0 := by
  induction n generalizing k with
  | zero => exact ⟨Nat.le_refl _, Nat.le_refl _, fun h => absurd h (Nat.lt_irrefl _), fun j h1 h2 => by have : j < k := h2; omega⟩
  | succ n ih =>
    unfold BS.free
    by_cases e : (S.ino k).kind = 0
    · rw [if_pos e]; exact ⟨Nat.le_refl _, by omega, fun _ => e, fun j h1 h2 => by omega⟩
    · rw [if_neg e]
      obtain ⟨a, b, c, d⟩ := ih (k + 1)
      exact ⟨by omega, by omega, fun h => c (by omega), fun j h1 h2 => by
        by_cases e1 : j = k
        · rw [e1]; exact e
        · exact d j (by omega) h2⟩
theorem lay_gain {S : BS} {D I : Nat} {s : ByteArray} {x : Ino} (hne : I ≠ D) (hf : Fits (S.ino I) x D) : Gain S ((S.put (I : Int) x).putDir (D : Int) (lset s I ((S.put (I : Int) x).at (D : Int)).dir)) D I s := by
  have e1 : (S.put (I : Int) x).at (D : Int) = S.ino D := by rw [at_nat, put_nat, if_neg (fun e => hne e.symm)]
  unfold BS.putDir
  rw [e1]
  refine ⟨fun k h1 h2 => ?_, ?_, ?_, rfl⟩
  · rw [put_nat, if_neg h1, put_nat, if_neg h2]
  · rw [put_nat, if_pos rfl]
  · rw [put_nat, if_neg hne, put_nat, if_pos rfl]; exact hf
theorem Good.make {S : BS} {room : Nat} (h : Good S room) (d : Int) (s : ByteArray) (kind : Int) (t : ByteArray) : Good (S.make d s kind t).2 room := by
  unfold BS.make
  by_cases e1 : S.vacant d s = 0
  · rw [if_neg (by simpa using e1)]
    cases e2 : badKind kind t
    · rw [if_neg (by decide)]
      dsimp only
      by_cases e3 : 200 < S.free 1 200
      · rw [if_pos e3]; exact h
      · rw [if_neg e3]
        obtain ⟨D, rfl, h1, h2, hk, hl, hg, hs⟩ := vacant_ok e1
        obtain ⟨f1, f2, f3, _⟩ := free_spec S 200 1
        have hz := f3 (by omega)
        generalize S.free 1 200 = n at *
        have hne : n ≠ D := fun e => by rw [e, hk] at hz; cases hz
        have hnil := h.1.none n hz
        unfold badKind at e2
        have hb := of_decide_eq_false e2
        have hf : Fits (S.ino n) ⟨kind, 1, 0, 0, if kind = 2 then (D : Int) else 0, abE, [], t⟩ D := by
          rw [hnil]
          refine ⟨⟨by show 1 ≤ kind; omega, by show kind ≤ 4; omega⟩, by decide, ⟨rfl, by show (1 : Int) ≤ 20; decide⟩, by show (0 : Int) ≤ 0; decide, rfl, ⟨rfl, rfl⟩, fun _ => rfl, fun h3 => ?_, ?_, fun h2 => ⟨rfl, if_pos h2⟩⟩
          · show t = _
            by_cases e : t = ⟨#[]⟩
            · exact e
            · exact absurd (Or.inr (Or.inr (Or.inl ⟨h3, e⟩))) hb
          · show t.size ≤ 400
            by_cases h3 : kind = 3
            · omega
            · have : t = ⟨#[]⟩ := by
                by_cases e : t = ⟨#[]⟩
                · exact e
                · exact absurd (Or.inr (Or.inr (Or.inl ⟨h3, e⟩))) hb
              rw [this]; decide
        have hG := lay_gain (s := s) hne hf
        exact ⟨hG.inv h.1 ⟨f1, by omega⟩ hk hl hg hs, hG.tree h.1 h.2 hk hl⟩
    · rw [if_pos rfl]; exact h
  · rw [if_pos e1]; exact h
theorem Good.link {S : BS} {room : Nat} (h : Good S room) (d : Int) (s : ByteArray) (i : Int) : Good (S.link d s i).2 room := by
  unfold BS.link
  by_cases e1 : S.vacant d s = 0
  · rw [if_neg (by simpa using e1)]
    by_cases e2 : S.isI i = false ∨ (S.at i).links = 0
    · rw [if_pos e2]; exact h
    · rw [if_neg e2]
      have hi : S.isI i = true := by
        cases hb : S.isI i
        · exact absurd (.inl hb) e2
        · rfl
      obtain ⟨I, rfl, i1, i2, i3⟩ := isI_yes hi
      rw [at_nat] at *
      by_cases e3 : (S.ino I).kind = 2
      · rw [if_pos e3]; exact h
      · rw [if_neg e3]
        by_cases e4 : 20 ≤ (S.ino I).links
        · rw [if_pos e4]; exact h
        · rw [if_neg e4]
          obtain ⟨D, rfl, h1, h2, hk, hl, hg, hs⟩ := vacant_ok e1
          have hne : I ≠ D := fun e => e3 (by rw [e]; exact hk)
          have hd := h.1.noDir I e3
          have hn := h.1.nums I
          have hkk := h.1.kinds I
          have hf : Fits (S.ino I) { S.ino I with links := (S.ino I).links + 1 } D :=
            ⟨⟨by show 1 ≤ (S.ino I).kind; omega, hkk.2⟩, e3, ⟨rfl, by show (S.ino I).links + 1 ≤ 20; omega⟩, hn.2, rfl, ⟨hd, hd⟩, h.1.noBody I, h.1.noTarget I, h.1.target I, fun e => absurd e e3⟩
          have hG := lay_gain (s := s) hne hf
          exact ⟨hG.inv h.1 ⟨i1, i2⟩ hk hl hg hs, hG.tree h.1 h.2 hk hl⟩
  · rw [if_pos e1]; exact h
theorem Good.drop {S : BS} {room D : Nat} (h : Good S room) {s : ByteArray} {v : Int} (hg : lget s (S.ino D).dir = some v) (hd : (S.at v).kind = 2 → (S.at v).dir = []) : Good (S.drop (D : Int) s v) room ∧ ∃ I : Nat, v = (I : Int) ∧ I ≠ D ∧ Drop S (S.drop (D : Int) s v) D I s := by
  obtain ⟨hDk, hDn, I, rfl, i1, i2, i3, i4, i5⟩ := h.1.lead hg
  have hne : I ≠ D := fun e => by subst e; exact h.1.own h.2 hg
  rw [at_nat] at hd
  have dd := drop_drop (S := S) s hne
  exact ⟨⟨dd.inv h.1 hne hd hg, dd.tree h.1 h.2 hne hd hg⟩, I, rfl, hne, dd⟩
theorem Good.unlink {S : BS} {room : Nat} (h : Good S room) (d : Int) (s : ByteArray) : Good (S.unlink d s).2 room := by
  unfold BS.unlink
  by_cases e1 : S.dirE d true = 0
  · rw [if_neg (by simpa using e1)]
    by_cases e2 : (S.get d s).2 = 0
    · rw [if_neg (by simpa using e2)]
      obtain ⟨D, rfl, h1, h2, hk, hg⟩ := get_ok e2
      by_cases e3 : (S.at (S.get (D : Int) s).1).kind = 2
      · rw [if_pos e3]; exact h
      · rw [if_neg e3]
        exact (h.drop hg (fun e => absurd e e3)).1
    · rw [if_pos e2]; exact h
  · rw [if_pos e1]; exact h
theorem Good.rmdir {S : BS} {room : Nat} (h : Good S room) (d : Int) (s : ByteArray) : Good (S.rmdir d s).2 room := by
  unfold BS.rmdir
  by_cases e1 : S.dirE d true = 0
  · rw [if_neg (by simpa using e1)]
    by_cases e2 : (S.get d s).2 = 0
    · rw [if_neg (by simpa using e2)]
      obtain ⟨D, rfl, h1, h2, hk, hg⟩ := get_ok e2
      by_cases e3 : (S.at (S.get (D : Int) s).1).kind = 2
      · rw [if_neg (by simpa using e3)]
        by_cases e4 : (S.at (S.get (D : Int) s).1).dir = []
        · rw [if_neg (by simpa using e4)]
          exact (h.drop hg (fun _ => e4)).1
        · rw [if_pos e4]; exact h
      · rw [if_pos e3]; exact h
    · rw [if_pos e2]; exact h
  · rw [if_pos e1]; exact h
end Go.Proofs.YtlnlehoekchdeaaGreat.br
end
section
namespace Go.Proofs.YtlnlehoekchdeaaGreat.cb
open Go.RowKit
open Go.Proofs.YtlnlehoekchdeaaGreat.qu (KN ins)
open Go.Proofs.YtlnlehoekchdeaaGreat.br
set_option linter.unusedVariables false

abbrev kk (j : Nat) : KN := ((j : Int), (j : Int))
def fl (z : Nat → Bool) : Nat → Nat → List KN
  | _, 0 => []
  | k, n + 1 => if z k = true then kk k :: fl z (k + 1) n else fl z (k + 1) n
def setB (z : Nat → Bool) (i : Nat) (b : Bool) : Nat → Bool := fun j => if j = i then b else z j
theorem fl_congr {z z' : Nat → Bool} : ∀ {n k : Nat}, (∀ j, k ≤ j → j < k + n → z j = z' j) → fl z k n = fl z' k n
  | 0, _, _ => rfl
  | n + 1, k, h => by
    unfold fl
    rw [h k (Nat.le_refl _) (by omega), fl_congr fun j h1 h2 => h j (by omega) (by omega)]
theorem fl_mem {z : Nat → Bool} : ∀ {n k : Nat} {x : KN}, x ∈ fl z k n → ∃ j, x = kk j ∧ k ≤ j ∧ j < k + n ∧ z j = true
  | 0, _, _, h => by cases h
  | n + 1, k, x, h => by
    unfold fl at h
    split at h
    · rcases List.mem_cons.1 h with rfl | h
      · exact ⟨k, rfl, Nat.le_refl _, by omega, by assumption⟩
      · obtain ⟨j, e, h1, h2, h3⟩ := fl_mem h; exact ⟨j, e, by omega, by omega, h3⟩
    · obtain ⟨j, e, h1, h2, h3⟩ := fl_mem h; exact ⟨j, e, by omega, by omega, h3⟩
theorem fl_nil {z : Nat → Bool} : ∀ {n k : Nat}, fl z k n = [] → ∀ j, k ≤ j → j < k + n → z j = false
  | 0, _, _, j, h1, h2 => by omega
  | n + 1, k, h, j, h1, h2 => by
    unfold fl at h
    split at h
    · cases h
    · by_cases e : j = k
      · subst e; simp_all
      · exact fl_nil h j (by omega) (by omega)
theorem fl_cons {z : Nat → Bool} : ∀ {n k : Nat} {x : KN} {r : List KN}, fl z k n = x :: r → ∃ j, x = kk j ∧ k ≤ j ∧ j < k + n ∧ z j = true ∧ (∀ i, k ≤ i → i < j → z i = false) ∧ r = fl (setB z j false) k n
  | 0, _, _, _, h => by cases h
  | n + 1, k, x, r, h => by
    unfold fl at h
    split at h
    · rename_i hz
      injection h with h1 h2
      refine ⟨k, h1.symm, Nat.le_refl _, by omega, hz, fun i _ _ => by omega, ?_⟩
      subst h2
      have e : setB z k false k = false := by simp [setB]
      conv => rhs; unfold fl
      rw [e, if_neg (by decide)]
      exact fl_congr fun j h1 h2 => by simp [setB]; omega
    · rename_i hz
      obtain ⟨j, h1, h2, h3, h4, h5, h6⟩ := fl_cons h
      refine ⟨j, h1, by omega, by omega, h4, fun i h7 h8 => ?_, ?_⟩
      · by_cases e : i = k
        · subst e; simpa using hz
        · exact h5 i (by omega) h8
      · have e : setB z j false k = z k := by simp [setB]; omega
        conv => rhs; unfold fl
        rw [e, if_neg hz]; exact h6
theorem fl_ins {z : Nat → Bool} : ∀ {n k i : Nat}, k ≤ i → i < k + n → z i = false → ins (kk i) (fl z k n) = fl (setB z i true) k n
  | 0, _, _, _, _, _ => by omega
  | n + 1, k, i, h1, h2, h3 => by
    by_cases e : i = k
    · subst e
      have e1 : setB z i true i = true := by simp [setB]
      conv => rhs; unfold fl
      conv => lhs; unfold fl
      rw [e1, if_neg (by rw [h3]; decide), if_pos rfl]
      have e2 : fl (setB z i true) (i + 1) n = fl z (i + 1) n := fl_congr fun j h1 h2 => by simp [setB]; omega
      rw [e2]
      cases hl : fl z (i + 1) n with
      | nil => rfl
      | cons x r =>
        obtain ⟨j, hj, h4, _⟩ := fl_cons hl
        subst hj
        unfold ins
        rw [if_pos (by show (i : Int) < (j : Int); omega)]
    · have e1 : setB z i true k = z k := by simp [setB]; omega
      conv => rhs; unfold fl
      conv => lhs; unfold fl
      rw [e1]
      have ih := fl_ins (z := z) (n := n) (k := k + 1) (i := i) (by omega) (by omega) h3
      split
      · rw [← ih]
        conv => lhs; unfold ins
        rw [if_neg (by show ¬ (i : Int) < (k : Int); omega)]
      · exact ih
/-- The free numbers of a branch. -/
def zf (S : BS) (k : Nat) : Bool := decide ((S.ino k).kind = 0)
def freeL (S : BS) : List KN := fl (zf S) 1 200
theorem free_nil {S : BS} : ∀ {n k : Nat}, fl (zf S) k n = [] → S.free k n = k + n
  | 0, _, _ => rfl
  | n + 1, k, h => by
    unfold fl at h
    split at h
    · cases h
    · rename_i hz
      unfold BS.free
      rw [if_neg (by simpa [zf] using hz), free_nil h]; omega
theorem free_cons {S : BS} : ∀ {n k : Nat} {x : KN} {r : List KN}, fl (zf S) k n = x :: r → x = kk (S.free k n) ∧ k ≤ S.free k n ∧ S.free k n < k + n ∧ r = fl (setB (zf S) (S.free k n) false) k n := by
  intro n k x r h
  obtain ⟨j, h1, h2, h3, h4, h5, h6⟩ := fl_cons h
  have hs := free_spec S n k
  have e : S.free k n = j := by
    rcases Nat.lt_trichotomy (S.free k n) j with h | h | h
    · have := hs.2.2.1 (by omega)
      have h7 := h5 _ hs.1 h
      simp [zf] at h7; exact absurd this h7
    · exact h
    · have := hs.2.2.2 j h2 h
      simp [zf] at h4; exact absurd h4 this
  rw [e]; exact ⟨h1, h2, h3, h6⟩
theorem freeL_nil {S : BS} (h : freeL S = []) : S.free 1 200 = 201 := free_nil h
theorem freeL_cons {S : BS} {x : KN} {r : List KN} (h : freeL S = x :: r) : x = kk (S.free 1 200) ∧ 1 ≤ S.free 1 200 ∧ S.free 1 200 ≤ 200 ∧ r = fl (setB (zf S) (S.free 1 200) false) 1 200 := by
  obtain ⟨h1, h2, h3, h4⟩ := free_cons h; exact ⟨h1, h2, by omega, h4⟩
theorem freeL_of {S : BS} {z : Nat → Bool} (h : ∀ j, 1 ≤ j → j ≤ 200 → z j = zf S j) : fl z 1 200 = freeL S := fl_congr fun j h1 h2 => h j h1 (by omega)
theorem fl_snoc {z : Nat → Bool} : ∀ {n k : Nat}, fl z k (n + 1) = fl z k n ++ if z (k + n) = true then [kk (k + n)] else []
  | 0, k => by simp [fl]
  | n + 1, k => by
    conv => lhs; unfold fl
    rw [fl_snoc (n := n) (k := k + 1)]
    conv => rhs; unfold fl
    rw [show k + 1 + n = k + (n + 1) by omega]
    by_cases h : z k = true
    · rw [if_pos h, if_pos h]; rfl
    · rw [if_neg h, if_neg h]
theorem fl_count (S : BS) : ∀ n, (fl (zf S) 1 n).length + S.count n = n
  | 0 => rfl
  | n + 1 => by
    rw [fl_snoc, List.length_append]
    have ih := fl_count S n
    have e : S.count (n + 1) = S.count n + if (S.ino (n + 1)).kind ≠ 0 then 1 else 0 := rfl
    rw [e, show 1 + n = n + 1 by omega]
    by_cases h : (S.ino (n + 1)).kind = 0
    · rw [if_pos (by simp [zf, h]), if_neg (by simp [h])]; simp; omega
    · rw [if_neg (by simp [zf, h]), if_pos h]; simp; omega
theorem freeL_length (S : BS) : (freeL S).length + S.count 200 = 200 := fl_count S 200
theorem freeL_le (S : BS) : (freeL S).length ≤ 200 := by have := freeL_length S; omega
/-- A number goes out of use, or comes into it. -/
theorem freeL_push {S S' : BS} {i : Nat} (h1 : 1 ≤ i) (h2 : i ≤ 200) (hz : (S.ino i).kind ≠ 0) (hz' : (S'.ino i).kind = 0) (h : ∀ k, k ≠ i → (S'.ino k).kind = (S.ino k).kind) : ins (kk i) (freeL S) = freeL S' := by
  unfold freeL
  rw [fl_ins h1 (by omega) (by simp [zf, hz])]
  exact freeL_of fun j _ _ => by
    unfold setB zf
    by_cases e : j = i
    · subst e; simp [hz']
    · rw [if_neg e, h j e]
theorem freeL_pop {S S' : BS} {x : KN} {r : List KN} (hl : freeL S = x :: r) (hz' : (S'.ino (S.free 1 200)).kind ≠ 0) (h : ∀ k, k ≠ S.free 1 200 → (S'.ino k).kind = (S.ino k).kind) : r = freeL S' := by
  obtain ⟨_, _, _, h4⟩ := freeL_cons hl
  rw [h4]
  exact freeL_of fun j _ _ => by
    unfold setB zf
    by_cases e : j = S.free 1 200
    · subst e; simp [hz']
    · rw [if_neg e, h j e]
theorem freeL_same {S S' : BS} (h : ∀ k, (S'.ino k).kind = (S.ino k).kind) : freeL S' = freeL S := freeL_of fun j _ _ => by unfold zf; rw [h j]
end Go.Proofs.YtlnlehoekchdeaaGreat.cb
end
section
namespace Go.Proofs.YtlnlehoekchdeaaGreat.dn
open Go.RowKit Go.Shelf
set_option linter.unusedVariables false


set_option maxRecDepth 100000 in
set_option maxHeartbeats 1000000 in
theorem set_name (D lo c : Nat) (o : Option Nat) (L : List En) (s : ByteArray) (v : Int) (w : World) (hm : s.size ≤ 9223372036854775807) (h : Du w D lo o c L) (he : nerr s.data.toList ≠ 0) :
    Calls Tryz.prog 48 #[Pq D, .string s, .int .i64 v] w (StepE w D lo o (.int .i64 (nerr s.data.toList)) L) := by
  have HN := Lib.hid (name_any s w hm)
  unfold NameE at HN
  have HF := Lib.hid (fun w' hb => stepE_same (v := .int .i64 (nerr s.data.toList)) (w' := w') h hb)
  generalize nerr s.data.toList = r at *
  have hr : (r != 0) = true := by simpa using he
  have hr2 : (r == 0) = false := by simpa using he
  clear h he
  go_enter Tryz.func48, Tryz.ntmps48
  go_wp2_with fail
  refine HN.out.mono ?_
  rintro e w2 ⟨rfl, hb2⟩
  go_wp2_with fail
  go_ret
  exact HF.out _ hb2

theorem Du.frozen {w : World} {D lo c G : Nat} {o : Option Nat} {L : List En} (h : Du w D lo o c L) (ho : o = some G) (k : Nat) : w.frozen? ⟨G, k, none⟩ = false := by subst ho; exact h.row.2.2.frozen k
set_option maxRecDepth 100000 in
set_option maxHeartbeats 1000000 in
theorem set_dot (D lo c : Nat) (o : Option Nat) (L : List En) (s : ByteArray) (v : Int) (w : World) (hm : s.size ≤ 9223372036854775807) (h : Du w D lo o c L) (he : nerr s.data.toList = 0) (hd : dotB s = true ∨ v < 1) :
    Calls Tryz.prog 48 #[Pq D, .string s, .int .i64 v] w (StepE w D lo o (.int .i64 22) L) := by
  have HN := Lib.hid (name_any s w hm)
  unfold NameE at HN
  rw [he] at HN
  have HF := Lib.hid (fun w' hb => stepE_same (v := .int .i64 22) (w' := w') h hb)
  unfold dotB at hd
  have hq1 : ∃ a, (s.toList == [46]) = a := ⟨_, rfl⟩
  have hq2 : ∃ a, (s.toList == [46, 46]) = a := ⟨_, rfl⟩
  obtain ⟨q1, h1⟩ := hq1
  obtain ⟨q2, h2⟩ := hq2
  rw [h1, h2] at hd
  clear h he
  have hd' : q1 = true ∨ (q1 = false ∧ q2 = true) ∨ (q1 = false ∧ q2 = false ∧ v < 1) := by
    cases q1 <;> cases q2 <;> simp at hd ⊢ <;> exact hd
  clear hd
  rcases hd' with rfl | ⟨rfl, rfl⟩ | ⟨rfl, rfl, hv⟩
  all_goals
    go_enter Tryz.func48, Tryz.ntmps48
    go_wp2_with fail
    refine HN.out.mono ?_
    rintro e w2 ⟨rfl, hb2⟩
    go_wp2_with fail
    go_ret
    exact HF.out _ hb2

theorem Du.old {w w2 : World} {D lo c : Nat} {o : Option Nat} {L : List En} {s : ByteArray} {x : En} {v : Int} {G : Nat} (h : Du w2 D lo (some G) c L) (hx : L[pos s L]? = some x) (hs : x.1 = s) (hb : Below w.heap.size w w2) (hD : D < w.heap.size) (ho : o = some G) :
    StepE w D lo o (.int .i64 0) (lset s v L) (.returned (.int .i64 0)) (w2.setCell ⟨G, pos s L * 2 + 1, none⟩ (.int .i64 v)) := by
  subst ho
  rw [lset_old hx hs]
  have hr := h.row.2.2.setNum hx v
  rw [hs] at hr
  refine ⟨rfl, some G, c, ⟨?_, by simpa using h.f0, h.row.1, h.row.2.1, hr⟩, fun G e => .inl e, ?_⟩
  · rw [World.cell?_setCell_other _ _ _ _ (fun e => h.row.2.1 (by have := congrArg Addr.block e; simpa using this.symm)), List.length_set]; exact h.d0
  · exact (Fr.below hb).trans (Fr.grown (grownBy_set w2 G _ _)) (fun k e => .inl e)

set_option maxRecDepth 100000 in
set_option maxHeartbeats 2000000 in
theorem set_old (D lo c : Nat) (o : Option Nat) (L : List En) (s : ByteArray) (v : Int) (w : World) (hm : s.size ≤ 9223372036854775807) (h : Du w D lo o c L) (hs : Sorted L) (hN : L.length ≤ 1000000) (he : nerr s.data.toList = 0) (hd : dotB s = false) (hv : ¬ v < 1) (ht : thereB s L = true) :
    Calls Tryz.prog 48 #[Pq D, .string s, .int .i64 v] w (StepE w D lo o (.int .i64 0) (lset s v L)) := by
  have HNA := Lib.hid (name_any s w hm)
  unfold NameE at HNA
  rw [he] at HNA
  have HP := Lib.hid (fun W (hb : Below w.heap.size w W) => place_any D lo c o L s W hs hN (h.below hb))
  unfold PlaceE at HP
  rw [ht] at HP
  obtain ⟨x, hx, hxs, hl⟩ := there_yes hs ht
  have hk := (List.getElem?_eq_some_iff.1 hx).1
  have HX := Lib.hid (fun W (hb : Below w.heap.size w W) => (h.below hb).at_ hx)
  have HD := Lib.hid (fun W (hb : Below w.heap.size w W) => (h.below hb))
  have HF := Lib.hid (fun W G (hb : Below w.heap.size w W) (ho : o = some G) => Du.old (w := w) (v := v) (o := o) (by rw [← ho]; exact h.below hb) hx hxs hb h.lt ho)
  have hq : (s.toList == [46]) = false ∧ (s.toList == [46, 46]) = false := by simpa [dotB] using hd
  obtain ⟨h1, h2⟩ := hq
  have HFZ := Lib.hid (fun W (hb : Below w.heap.size w W) G (ho : o = some G) k => (h.below hb).frozen ho k)
  have HD0 := Lib.hid (fun W (hb : Below w.heap.size w W) => (h.below hb).d0)
  generalize pos s L = k at *
  generalize lset s v L = K at *
  generalize L.length = n at *
  clear h hs he hd ht hx hxs hl
  go_enter Tryz.func48, Tryz.ntmps48
  go_wp2_with fail
  refine HNA.out.mono ?_
  rintro e w2 ⟨rfl, hb2⟩
  have HP2 := Lib.hid (HP.out _ hb2)
  have HB2 := Lib.hid hb2
  clear hb2 HP HNA
  go_wp2_with fail
  refine HP2.out.mono ?_
  rintro e w3 ⟨rfl, hb3⟩
  have hb4 := below_step HB2.out hb3
  obtain ⟨G, ho, f0, f1⟩ := HX.out w3 hb4
  have d0 := HD0.out w3 hb4
  have z0 := HFZ.out w3 hb4 G ho (k * 2 + 1)
  have HR := Lib.hid (HF.out w3 G hb4 ho)
  rw [ho] at d0
  clear HP2 hb3 hb4 HX HD HFZ HD0 HF f0
  go_wp2_with fail
  go_ret
  exact HR.out
end Go.Proofs.YtlnlehoekchdeaaGreat.dn
end
section
namespace Go.Proofs.YtlnlehoekchdeaaGreat.dn
open Go.RowKit Go.Shelf
set_option linter.unusedVariables false


theorem Du.sl {w : World} {D lo c : Nat} {o : Option Nat} {L : List En} (h : Du w D lo o c L) : Sl w lo o c L := by
  cases o with
  | none => exact h.row
  | some G => exact ⟨h.row.1, h.row.2.2⟩
theorem lset_len {s : ByteArray} {v : Int} {L : List En} (h : ∀ x, L[pos s L]? = some x → x.1 ≠ s) : (lset s v L).length = L.length + 1 := by
  rw [lset_new h]; simp; have := pos_le s L; omega
/-- Behind the insertion, and the store of the new slice. -/
theorem Du.stored {w W w4 : World} {D lo c : Nat} {o : Option Nat} {L K : List En} {n : Nat} {e : Ending} {vv : Value} (h : Du w D lo o c L) (hb : Below w.heap.size w W) (hK : K.length = n + 1) (hi : InsE W lo o n K e w4) :
    w4.cell? ⟨D, 0, none⟩ = some (.slice (Ao o) L.length c) ∧ w4.frozen? ⟨D, 0, none⟩ = false ∧ ∃ G c', e = .returned (.slice (some ⟨G, 0, none⟩) (n + 1) c') ∧
      StepE w D lo o vv K (.returned vv) (w4.setCell ⟨D, 0, none⟩ (.slice (some ⟨G, 0, none⟩) (n + 1) c')) := by
  obtain ⟨G, c', he, hr, hlo, hat, hg⟩ := hi
  have hD := h.lt
  have hDW : D < W.heap.size := Nat.lt_of_lt_of_le hD hb.size
  have hne : some D ≠ o := fun e => (h.glt D e.symm).2.2 rfl
  have hblk : w4.heap[D]? = w.heap[D]? := (hg.block D hDW hne).trans (hb.block D hD)
  have c0 := (World.cell?_of_block (a := ⟨D, 0, none⟩) hblk).trans h.d0
  have c1 := (World.frozen?_of_block (a := ⟨D, 0, none⟩) hblk).trans h.f0
  have hDG : D ≠ G := by
    rcases hat with e | e
    · exact (h.glt G e).2.2
    · omega
  refine ⟨c0, c1, G, c', he, rfl, some G, c', ⟨?_, by simpa using c1, hlo, hDG, hr.of_block (Below.heap_setCell _ _ _ _ (fun e => hDG (by simpa using e.symm)))⟩, fun G' e => ?_, ?_⟩
  · rw [World.cell?_setCell_same _ _ _ c0, hK]; rfl
  · injection e with e; subst e; exact hat.imp id (fun e => Nat.le_trans hb.size e)
  · exact ((Fr.below hb).trans (Fr.grown (Q := D) hg) (fun k e => .inl e)).trans (Fr.setQ w4 D o _) (fun k e => .inl e)

set_option maxRecDepth 100000 in
set_option maxHeartbeats 2000000 in
theorem set_new (D lo c : Nat) (o : Option Nat) (L : List En) (s : ByteArray) (v : Int) (w : World) (hm : s.size ≤ 9223372036854775807) (h : Du w D lo o c L) (hlo : lo ≤ w.heap.size) (hs : Sorted L) (hN : L.length ≤ 900000) (he : nerr s.data.toList = 0) (hd : dotB s = false) (hv : ¬ v < 1) (ht : thereB s L = false) :
    Calls Tryz.prog 48 #[Pq D, .string s, .int .i64 v] w (StepE w D lo o (.int .i64 0) (lset s v L)) := by
  have HNA := Lib.hid (name_any s w hm)
  unfold NameE at HNA
  rw [he] at HNA
  have HP := Lib.hid (fun W (hb : Below w.heap.size w W) => place_any D lo c o L s W hs (by omega) (h.below hb))
  unfold PlaceE at HP
  rw [ht] at HP
  obtain ⟨hl, hno⟩ := there_no hs ht
  have HD0 := Lib.hid (fun W (hb : Below w.heap.size w W) => (h.below hb).d0)
  have HI := Lib.hid (fun W (hb : Below w.heap.size w W) => ins_any c lo (pos s L) W.heap.size 1 o L (s, v) (W.alloc (.cells #[.string s, .int .i64 v] 123)) (pos_le s L) (by omega) (by simp; have := hb.size; omega)
    ((h.below (below_step hb (below_alloc W _))).sl) (heap_alloc_new W _) (fun e => by have := (h.glt _ e).1; have := hb.size; omega))
  rw [← lset_new hno] at HI
  have HST := Lib.hid (fun W w4 e (hb : Below w.heap.size w W) hi => Du.stored (W := W) (w4 := w4) (e := e) (n := L.length) (vv := .int .i64 0) h hb (lset_len (v := v) hno) hi)
  have hq : (s.toList == [46]) = false ∧ (s.toList == [46, 46]) = false := by simpa [dotB] using hd
  obtain ⟨h1, h2⟩ := hq
  generalize pos s L = k at *
  generalize lset s v L = K at *
  generalize L.length = n at *
  clear h hs he hd ht hl hno
  go_enter Tryz.func48, Tryz.ntmps48
  go_wp2_with fail
  refine HNA.out.mono ?_
  rintro e w2 ⟨rfl, hb2⟩
  have HP2 := Lib.hid (HP.out _ hb2)
  have HB2 := Lib.hid hb2
  clear hb2 HP HNA
  go_wp2_with fail
  refine HP2.out.mono ?_
  rintro e w3 ⟨rfl, hb3⟩
  have hb4 := below_step HB2.out hb3
  have d0 := HD0.out w3 hb4
  have HI3 := Lib.hid (HI.out w3 hb4)
  have HST3 := Lib.hid (fun w4 e hi => HST.out (w3.alloc (.cells #[.string s, .int .i64 v] 123)) w4 e (below_step hb4 (below_alloc w3 _)) hi)
  clear HP2 hb3 hb4 HD0 HI HST
  go_wp2_with fail
  refine HI3.out.mono ?_
  intro e w4 hi
  obtain ⟨c0, c1, G, c', rfl, hst⟩ := HST3.out w4 e hi
  have HR := Lib.hid hst
  clear hi hst HI3 HST3 d0
  go_wp2_with fail
  go_ret
  exact HR.out

/-- 'Set', whatever the name and the number. -/
theorem set_any (D lo c : Nat) (o : Option Nat) (L : List En) (s : ByteArray) (v : Int) (w : World) (hm : s.size ≤ 9223372036854775807) (h : Du w D lo o c L) (hlo : lo ≤ w.heap.size) (hs : Sorted L) (hN : L.length ≤ 900000) :
    Calls Tryz.prog 48 #[Pq D, .string s, .int .i64 v] w (StepE w D lo o (.int .i64 (serr s v)) (lsetE s v L)) := by
  unfold lsetE serr
  by_cases he : nerr s.data.toList = 0
  · rw [if_neg (by simpa using he)]
    by_cases hd : dotB s = true ∨ v < 1
    · rw [if_pos hd, if_neg (by decide)]
      exact set_dot D lo c o L s v w hm h he hd
    · rw [if_neg hd, if_pos rfl]
      have hd1 : dotB s = false := by simpa using fun e => hd (.inl e)
      have hv : ¬ v < 1 := fun e => hd (.inr e)
      cases ht : thereB s L
      · exact set_new D lo c o L s v w hm h hlo hs hN he hd1 hv ht
      · exact set_old D lo c o L s v w hm h hs (by omega) he hd1 hv ht
  · rw [if_pos (by simpa using he), if_neg he]
    exact set_name D lo c o L s v w hm h he
end Go.Proofs.YtlnlehoekchdeaaGreat.dn
end
