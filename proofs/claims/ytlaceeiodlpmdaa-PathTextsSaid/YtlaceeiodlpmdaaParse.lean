/- 'dots', 'endsInDir', 'Parse': what they hand back, of any text. -/
import Derived.Test.YtlaceeiodlpmdaaComps
import Derived.Test.YtlaceeiodlpmdaaShelf
namespace Go.Proofs.Ytlaceeiodlpmdaa
open Go.RowKit

theorem sv_list (x : Bs) : (⟨x.toArray⟩ : ByteArray).toList = x := by rw [Lib.toList_data]
def dotB (x : Bs) : Bool := x == [46] || x == [46, 46]

set_option maxHeartbeats 400000 in
theorem dots_any (x : Bs) (w : World) : Calls Try.prog 33 #[Sv x] w fun e w' => e = .returned (.bool (dotB x)) ∧ w = w' := by
  go_enter Try.func33, Try.ntmps33
  go_wp2
  all_goals (go_ret; exact ⟨by simp_all [dotB], rfl⟩)

def endB (L : Bs) (xs : List Bs) : Bool := xs.isEmpty || Lib.hasSuffix L [47] || lastDots xs

set_option maxHeartbeats 400000 in
theorem ends_none (s : ByteArray) (A : Option Addr) (c : Nat) (w : World) :
    Calls Try.prog 29 #[.string s, .slice A 0 c] w fun e w' => e = .returned (.bool (endB s.data.toList [])) ∧ w = w' := by
  go_enter Try.func29, Try.ntmps29
  go_wp2
  go_ret
  exact ⟨rfl, rfl⟩

set_option maxHeartbeats 400000 in
theorem ends_some (s : ByteArray) (A : Option Addr) (c : Nat) (ys : List Bs) (x : Bs) (B : Nat) (w : World) (hs : s.size ≤ 400) (hl : ys.length ≤ 400) (h : Strs w B A (ys ++ [x])) :
    Calls Try.prog 29 #[.string s, .slice A (ys.length + 1) c] w fun e w' => e = .returned (.bool (endB s.data.toList (ys ++ [x]))) ∧ w = w' := by
  obtain ⟨ad, y, rfl, _, hy, hcell⟩ := h.get (k := ys.length) (by simp)
  rw [List.getElem?_append_right (Nat.le_refl _)] at hy
  simp at hy
  subst hy
  have HF := Lib.hid (show endB s.data.toList (ys ++ [x]) = (Lib.hasSuffix s.data.toList [47] || dotB x) by unfold endB; rw [show (ys ++ [x]).isEmpty = false by cases ys <;> rfl]; simp [lastDots, dotB])
  clear h
  go_enter Try.func29, Try.ntmps29
  go_wp2_with (first
    | (go_at_call 37; refine (Try.strings_HasSuffix _ _ _ (by omega)).mono ?_; rintro e w' ⟨rfl, rfl⟩)
    | (go_at_call 33; refine (dots_any _ _).mono ?_; rintro e w' ⟨rfl, rfl⟩))
  all_goals (go_ret; refine ⟨?_, rfl⟩; rw [HF.out])
  · have h2 : (((ys.length : Int) + 1 == 0) = true ∨ Lib.hasSuffix s.data.toList [47] = true) := by assumption
    have h3 : Lib.hasSuffix s.data.toList [47] = true := by
      rcases h2 with h2 | h2
      · rw [beq_iff_eq] at h2; omega
      · exact h2
    rw [h3]; rfl
  · have h2 : (((ys.length : Int) + 1 == 0) = false ∧ Lib.hasSuffix s.data.toList [47] = false) := by assumption
    rw [h2.2]; rfl

theorem ends_any (s : ByteArray) (A : Option Addr) (n c : Nat) (xs : List Bs) (B : Nat) (w : World) (hn : n = xs.length) (hs : s.size ≤ 400) (hl : xs.length ≤ 400) (h : Strs w B A xs) :
    Calls Try.prog 29 #[.string s, .slice A n c] w fun e w' => e = .returned (.bool (endB s.data.toList xs)) ∧ w = w' := by
  subst hn
  rcases List.eq_nil_or_concat xs with rfl | ⟨ys, x, rfl⟩
  · exact ends_none s A c w
  · rw [List.concat_eq_append] at h hl ⊢
    rw [List.length_append]
    exact ends_some s A c ys x B w hs (by simp at hl; omega) h

end Go.Proofs.Ytlaceeiodlpmdaa
