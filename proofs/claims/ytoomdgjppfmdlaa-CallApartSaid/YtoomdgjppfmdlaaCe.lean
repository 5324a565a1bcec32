/- The document's Decode: a byte at a place, a text, and the calls. -/
import Derived.Test.YtoomdgjppfmdlaaCd
namespace Go.Proofs.Ytoomdgjppfmdlaa
open Go.RowKit
set_option linter.unusedVariables false
set_option linter.unusedSimpArgs false

theorem int_eq {k : IntKind} {a b : Int} (h : a = b) : Ending.returned (.int k a) = .returned (.int k b) := by rw [h]
theorem rat_any (A : Option Addr) (n c : Nat) (l : Bs) (z : Int) (i : Nat) (w : World) (hz : z = i) (hn : n = l.length) (hN : n ≤ 1000000) (hi : i ≤ 2000000) (h : Byt w w.heap.size A l) :
    Calls Try.prog 22 #[.slice A n c, .int .i64 z] w fun e w' => e = .returned (.int .i64 (at_ l i : Nat)) ∧ w = w' := by
  subst hz
  by_cases hin : i < n
  · have hil : i < l.length := by omega
    obtain ⟨G, off, rfl, hG, hc⟩ := h i _ (List.getElem?_eq_getElem hil)
    have HE := Lib.hid (at_in hil)
    have h256 := (l[i]).toNat_lt
    generalize l[i] = x at *
    clear hn h hil
    go_enter Try.func22, Try.ntmps22
    go_wp2_with fail
    go_ret
    exact ⟨int_eq (by rw [HE.out]; try rfl), rfl⟩
  · have HE := Lib.hid (show at_ l i = 0 from at_out (by omega))
    have hni : ¬ ((i : Int) < (n : Int)) := by omega
    clear hn h
    go_enter Try.func22, Try.ntmps22
    go_wp2_with fail
    go_ret
    exact ⟨int_eq (by rw [HE.out]; try rfl), rfl⟩
/-- What a call hands back that hands back a text. -/
def RetS (w : World) (x : Bs) (e : Ending) (w' : World) : Prop := e = .returned (Sv x) ∧ Below w.heap.size w w'
theorem byte_ofNat {z : Nat} (h : z < 256) : by_ (z : Int) = UInt8.ofNat z := by unfold by_; simp
set_option maxHeartbeats 2000000 in
theorem rtext_any (A : Option Addr) (n c : Nat) (l : Bs) (z y : Int) (i m : Nat) (w : World) (hz : z = i) (hy : y = m) (hm : m ≤ 63) (hn : n = l.length) (hN : n ≤ 1000000) (hi : i ≤ 1000100) (h : Byt w w.heap.size A l) :
    Calls Try.prog 23 #[.slice A n c, .int .i64 z, .int .i64 y] w (RetS w (txt l i m)) := by
  subst hz
  subst hy
  have HN := Lib.hid hn
  have HB := Lib.hid h
  clear hn h
  go_enter Try.func23, Try.ntmps23
  go_wp2_with fail
  go_loopg [8, 7] m (fun g s8 s7 wr => ∃ (k c' : Nat) (A' : Option Addr), g + k = m ∧ s8 = .int .i64 k ∧ s7 = .slice A' k c' ∧ Hid (Bo wr w.heap.size A' k c' (txt l i k)) ∧ Hid (Below w.heap.size w wr))
  case atStart => exact ⟨0, 0, some ⟨w.heap.size, 0, none⟩, by omega, rfl, rfl, Lib.hid (by exact World.ownsRow_lit w #[] 0 (Nat.le_refl _) (by unfold maxLen; omega) rfl), Lib.hid (below_alloc _ _)⟩
  case round =>
    obtain ⟨k, c', A', hgk, rfl, rfl, HR, HW⟩ := hrel
    by_cases hkm : k < m
    · have HB2 := Lib.hid ((HB.out.below HW.out).more (HW.out.size))
      have HT := Lib.hid (txt_snoc l i k)
      have HS := Lib.hid (HW.out.size)
      have h256 := at_lt l (i + k)
      have HC := Lib.hid (byte_ofNat h256)
      have HK := Lib.hid (fun ob => HR.out.keep (below_alloc wr ob))
      have HV := Lib.hid (fun ob => HW.out.trans ((below_alloc wr ob).mono HS.out))
      go_wp2_with fail
      refine (rat_any A n c l _ (i + k) _ (by omega) HN.out hN (by omega) HB2.out).mono ?_
      rintro e w2 ⟨rfl, rfl⟩
      generalize at_ l (i + k) = v at *
      go_wp2_with (at_builtin; refine wpList_app _ rfl (.tmp 15) (.tmp 22) rfl w.heap.size (wr.heap.size + 1) k 1 c' 1 A' (some ⟨wr.heap.size, 0, none⟩) _ [by_ v] (by rfl) (by rfl) (HK.out _) rfl (by exact news1 _ _ _ (by first | rfl | omega) (by omega) (by omega)) (by omega) (by have := HS.out; simp; omega) ?_; intro A5 c5 w5 o5 b5)
      have HR5 := Lib.hid (HT.out ▸ HC.out ▸ o5)
      have HW5 := Lib.hid ((HV.out _).trans b5)
      clear o5 b5
      go_wp2_with fail
      go_roundg (gk - 1)
      case measure => omega
      case rel => exact ⟨k + 1, c5, A5, by omega, by go_num, rfl, HR5, HW5⟩
    · have hk : k = m := by omega
      subst hk
      have HS := Lib.hid (bo_string HR.out)
      have hs := HS.out
      go_wp2_with fail
      go_ret
      exact ⟨rfl, HW.out⟩
end Go.Proofs.Ytoomdgjppfmdlaa
