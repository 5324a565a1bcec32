/- Acts that came in, opened, each number in its range; how many items bear a number. -/
import Derived.Test.YtadkhnenklkbmaaOne
namespace Go.Proofs.Ytadkhnenklkbmaa
open Go.ChangeShapes Go.WideShapes Go.ChangeAt Go.RowKit
set_option linter.unusedVariables false

theorem open_acts2 {H : Type} {enc : TypeId × Value → H} {W : World} {r : Reach} {b0 : Nat} {sp : Nat → Bool} {held : Bool} {v : Value} {d : DataW H} {p : List MemPlace}
    (hv : Value.okWide Try.prog W r b0 22 v) (h : DataW.Trod enc Try.prog W 0 sp held 22 v d p) :
    ∃ A n c F, v = .slice A n c ∧ (n ≤ c ∧ c ≤ maxLen) ∧ (Acts W W.heap.size A n F ∧ ∀ i, i < n → Wf (F i).num) := by
  obtain ⟨fuel, hf⟩ := h
  have hcells : v.cells.toList = [v] := by
    obtain ⟨A, n, c, rfl⟩ := okWide_slice Try.underlying22 hv
    rfl
  rw [hcells] at hf
  rcases open_slice_fields Try.underlying22 Try.underlying31 (by kernel_rfl) (by kernel_rfl) hf with e | ⟨a, len, cap, m, e, hl, hm, hlm, hi⟩
  · injection e with e
    subst e
    exact ⟨none, 0, 0, fun _ => default, rfl, ⟨Nat.le_refl _, by unfold maxLen; omega⟩, fun i hi => absurd hi (Nat.not_lt_zero _), fun i hi => absurd hi (Nat.not_lt_zero _)⟩
  · injection e with e
    subst e
    have hall : ∀ i, ∃ x : Act3, i < len → (∃ b off, (some a : Option Addr) = some ⟨b, off, none⟩ ∧ b < W.heap.size ∧
        W.cell? ⟨b, off + i * 3, none⟩ = some (.int .i64 x.kind) ∧ W.cell? ⟨b, off + i * 3 + 1, none⟩ = some (.int .i64 x.key) ∧ W.cell? ⟨b, off + i * 3 + 2, none⟩ = some (.int .i64 x.num)) ∧ Wf x.num := by
      intro i
      by_cases hil : i < len
      · obtain ⟨n0, hj0⟩ := hi 0 (by omega)
        obtain ⟨_, _, c00, _⟩ := hj0 0 _ rfl
        obtain ⟨b, off, rfl, hb⟩ := spot_none (by simpa using c00)
        obtain ⟨n, hj⟩ := hi i (by omega)
        obtain ⟨v0, y0, c0, t0⟩ := hj 0 _ rfl
        obtain ⟨v1, y1, c1, t1⟩ := hj 1 _ rfl
        obtain ⟨v2, y2, c2, t2⟩ := hj 2 _ rfl
        obtain ⟨z0, e0, _⟩ := DataW.trod_int Try.underlying3 t0
        obtain ⟨z1, e1, _⟩ := DataW.trod_int Try.underlying2 t1
        obtain ⟨z2, e2, _, hw⟩ := DataW.trod_int Try.underlying3 t2
        injection e0 with e0
        injection e1 with e1
        injection e2 with e2
        subst e0; subst e1; subst e2
        rw [Go.WideShapes.add_plain] at c0 c1 c2
        exact ⟨⟨z0, z1, z2⟩, fun _ => ⟨⟨b, off, rfl, hb, by simpa using c0, by simpa [Nat.add_assoc] using c1, by simpa [Nat.add_assoc] using c2⟩, hw⟩⟩
      · exact ⟨default, fun h => absurd h hil⟩
    obtain ⟨F, hF⟩ := Classical.axiomOfChoice hall
    exact ⟨some a, len, cap, F, rfl, ⟨hl, hm⟩, fun i hi => (hF i hi).1, fun i hi => (hF i hi).2⟩

theorem MapI.mono {w : World} {k : TypeId} {B n n' : Nat} {f : Int → Int} (h : MapI w k B n f) (hn : n ≤ n') : MapI w k B n' f := by
  obtain ⟨D, h1, r⟩ := h; exact ⟨D, h1.mono hn, r⟩
/-- How many items bear the number a. -/
def cnt (L : List KN) (a : Int) : Int := ((L.filter (fun x => x.2 == a)).length : Int)
theorem cnt_le (L : List KN) (a : Int) : 0 ≤ cnt L a ∧ cnt L a ≤ L.length := by
  unfold cnt
  have := List.length_filter_le (fun x : KN => x.2 == a) L
  omega
theorem cnt_perm {L K : List KN} (h : L.Perm K) (a : Int) : cnt L a = cnt K a := by
  unfold cnt
  rw [(h.filter _).length_eq]
theorem cnt_cons (x : KN) (L : List KN) (a : Int) : cnt (x :: L) a = (if a = x.2 then 1 else 0) + cnt L a := by
  unfold cnt
  rw [List.filter_cons]
  by_cases h : x.2 = a
  · subst h; simp; omega
  · have h1 : (x.2 == a) = false := by simpa using h
    have h2 : ¬ a = x.2 := fun e => h e.symm
    simp [h1, h2]
theorem cnt_ins (k m : Int) (L : List KN) (a : Int) : cnt (ins (k, m) L) a = upd (cnt L) m (cnt L m + 1) a := by
  rw [cnt_perm (ins_perm _ _), cnt_cons]
  unfold upd
  by_cases h : a = m
  · subst h; simp; omega
  · simp [h]
theorem cnt_tail (x : KN) (L : List KN) (a : Int) : cnt L a = upd (cnt (x :: L)) x.2 (cnt (x :: L) x.2 - 1) a := by
  unfold upd
  rw [cnt_cons, cnt_cons]
  by_cases h : a = x.2
  · subst h; simp; omega
  · simp [h]
theorem cnt_drop (L : List KN) (m a : Int) : cnt (L.filter (keepN m)) a = upd (cnt L) m 0 a := by
  induction L with
  | nil => unfold upd; split <;> rfl
  | cons x l ih =>
    rw [List.filter_cons]
    by_cases hx : x.2 = m
    · have hk : keepN m x = false := by simp [keepN, hx]
      rw [hk]
      simp only [Bool.false_eq_true, if_false]
      rw [ih]
      unfold upd
      by_cases ha : a = m
      · simp [ha]
      · rw [if_neg ha, if_neg ha, cnt_cons, if_neg (by rw [hx]; exact ha)]; omega
    · have hk : keepN m x = true := by simpa [keepN] using hx
      rw [hk]
      simp only [if_true]
      rw [cnt_cons, ih]
      unfold upd
      by_cases ha : a = m
      · rw [if_pos ha, if_pos ha, if_neg (by rw [ha]; exact fun e => hx e.symm)]; omega
      · rw [if_neg ha, if_neg ha, cnt_cons]
theorem len_drop (L : List KN) (m : Int) : ((L.filter (keepN m)).length : Int) = L.length - cnt L m := by
  unfold cnt
  induction L with
  | nil => rfl
  | cons x l ih =>
    rw [List.filter_cons, List.filter_cons]
    by_cases hx : x.2 = m
    · have hk : keepN m x = false := by simp [keepN, hx]
      have hb : (x.2 == m) = true := by simpa using hx
      simp [hk, hb]; omega
    · have hk : keepN m x = true := by simpa [keepN] using hx
      have hb : (x.2 == m) = false := by simpa using hx
      simp [hk, hb]; omega
theorem any_cnt (L : List KN) (m : Int) : L.any (fun x => x.2 == m) = decide (0 < cnt L m) := by
  unfold cnt
  induction L with
  | nil => rfl
  | cons x l ih =>
    rw [List.any_cons, List.filter_cons, ih]
    by_cases hx : x.2 = m
    · have hb : (x.2 == m) = true := by simpa using hx
      simp [hb]
    · have hb : (x.2 == m) = false := by simpa using hx
      simp [hb]
end Go.Proofs.Ytadkhnenklkbmaa
