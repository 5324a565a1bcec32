/- The document's own 'Get' and 'Next'. -/
import Derived.Test.YtlelnpckbcpkkaaGreatDnRef
import Derived.Test.YtlelnpckbcpkkaaGreatZa
namespace Go.Proofs.YtlelnpckbcpkkaaGreat.dn
open Go.RowKit Go.Shelf
set_option linter.unusedVariables false


theorem find_at {L : List En} {p : En → Bool} {k : Nat} {x : En} (hx : L[k]? = some x) (hp : p x = true) (hb : ∀ e ∈ L.take k, p e = false) : L.find? p = some x := by
  have hk := (List.getElem?_eq_some_iff.1 hx).1
  have hxx : L[k] = x := (List.getElem?_eq_some_iff.1 hx).2
  have e : L = L.take k ++ x :: L.drop (k + 1) := by rw [← hxx, List.getElem_cons_drop, List.take_append_drop]
  have h1 : (L.take k).find? p = none := List.find?_eq_none.2 fun y hy => by rw [hb y hy]; decide
  rw [e, List.find?_append, h1, List.find?_cons, hp]
  rfl
theorem before_next {L : List En} {p : En → Bool} {k : Nat} {x : En} (hx : L[k]? = some x) (hp : p x = false) (hb : ∀ e ∈ L.take k, p e = false) : ∀ e ∈ L.take (k + 1), p e = false := by
  rw [List.take_add_one, hx]
  intro e he
  rcases List.mem_append.1 he with he | he
  · exact hb e he
  · simp at he; rw [he]; exact hp

set_option maxRecDepth 100000 in
set_option maxHeartbeats 2000000 in
theorem rget_any (D lo c : Nat) (o : Option Nat) (L : List En) (s : ByteArray) (w : World) (hN : L.length ≤ 1000000) (h : Du w D lo o c L) :
    Calls Tryz.prog 49 #[Pq D, .string s] w (fun e w' => e = .returned (getV s L) ∧ w' = w) := by
  have d0 := h.d0
  have HH := Lib.hid h
  obtain ⟨r, hr⟩ : ∃ r, getV s L = r := ⟨_, rfl⟩
  rw [hr]
  have HYES := Lib.hid (fun (k : Nat) (x : En) (hx : L[k]? = some x) (hs : x.1 = s) (hb : ∀ e ∈ L.take k, decide (e.1 = s) = false) => (by
    rw [← hr]; unfold getV lget; rw [find_at hx (decide_eq_true hs) hb]; rfl : r = .tuple #[.int .i64 x.2, .int .i64 0]))
  have HNO := Lib.hid (fun (hb : ∀ e ∈ L, decide (e.1 = s) = false) => (by
    rw [← hr]; unfold getV lget; rw [List.find?_eq_none.2 fun y hy => by rw [hb y hy]; decide]; rfl : r = .tuple #[.int .i64 0, .int .i64 2]))
  generalize hn : L.length = n at *
  have HN2 := Lib.hid hn
  clear hn hr h
  go_enter Tryz.func49, Tryz.ntmps49
  go_wp2_with fail
  go_loopg [6] n (fun g s6 wr => ∃ k : Nat, g + k = n ∧ s6 = .int .i64 k ∧ Hid (∀ e ∈ L.take k, decide (e.1 = s) = false) ∧ wr = w)
  case atStart => exact ⟨0, by omega, rfl, Lib.hid (by simp), rfl⟩
  case round =>
    obtain ⟨k, hgk, rfl, HB, rfl⟩ := hrel
    by_cases hkn : k < n
    · have hx : L[k]? = some (L[k]'(by rw [HN2.out]; exact hkn)) := List.getElem?_eq_getElem _
      obtain ⟨G, rfl, f0, f1⟩ := HH.out.at_ hx
      generalize L[k]'(by rw [HN2.out]; exact hkn) = x at *
      by_cases hs : x.1 = s
      · have HR := Lib.hid (HYES.out k x hx hs HB.out)
        have hq : (x.1.toList == s.toList) = true := by rw [beq_names]; exact decide_eq_true hs
        obtain ⟨xs, xv⟩ := x
        dsimp only at f0 f1 hq
        clear hx hs HYES HNO
        go_wp2_with fail
        try rw [Exit.noGoto_ret]
        go_ret2
        exact ⟨by rw [HR.out]; first | done | rfl, rfl⟩
      · have HB2 := Lib.hid (before_next hx (decide_eq_false hs) HB.out)
        have hq : (x.1.toList == s.toList) = false := by rw [beq_names]; exact decide_eq_false hs
        obtain ⟨xs, xv⟩ := x
        dsimp only at f0 f1 hq
        clear hx hs HYES HNO
        go_wp2_with fail
        go_roundg (gk - 1)
        case measure => omega
        case rel => exact ⟨k + 1, by omega, by go_num, HB2, rfl⟩
    · have HR := Lib.hid (HNO.out (by have := HB.out; rwa [List.take_of_length_le (by rw [HN2.out]; omega)] at this))
      have hjn : ¬ ((k : Int) < (n : Int)) := by omega
      clear HYES HNO hkn
      go_wp2_with fail
      go_ret2
      exact ⟨by rw [HR.out]; first | done | rfl, rfl⟩

end Go.Proofs.YtlelnpckbcpkkaaGreat.dn
