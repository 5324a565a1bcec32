/- The document's own 'Get' and 'Next'. -/
import Derived.Test.YtchjidijgdkhoaaRef
import Derived.Test.YtchjidijgdkhoaaGet
namespace Go.Proofs.Ytchjidijgdkhoaa
open Go.RowKit Go.Shelf
set_option linter.unusedVariables false

theorem find_at {L : List En} {p : En → Bool} {k : Nat} {x : En} (hx : L[k]? = some x) (hp : p x = true) (hb : ∀ e ∈ L.take k, p e = false) : L.find? p = some x := by
  have hk := (List.getElem?_eq_some_iff.1 hx).1
  have hxx : L[k] = x := (List.getElem?_eq_some_iff.1 hx).2
  have e : L = L.take k ++ x :: L.drop (k + 1) := by rw [← hxx, List.getElem_cons_drop, List.take_append_drop]
  have h1 : (L.take k).find? p = none := List.find?_eq_none.2 fun y hy => by rw [hb y hy]; decide
  rw [e, List.find?_append, h1, List.find?_cons, hp]
  rfl
theorem before_next {L : List En} {p : En → Bool} {k : Nat} {x : En} (hx : L[k]? = some x) (hp : p x = false) (hb : ∀ e ∈ L.take k, p e = false) : ∀ e ∈ L.take (k + 1), p e = false := by
  rw [List.take_add_one, hx]
  intro e he
  rcases List.mem_append.1 he with he | he
  · exact hb e he
  · simp at he; rw [he]; exact hp

set_option maxHeartbeats 2000000 in
theorem rget_any (D lo c : Nat) (o : Option Nat) (L : List En) (s : ByteArray) (w : World) (hN : L.length ≤ 1000000) (h : Du w D lo o c L) :
    Calls Try.prog 15 #[Pq D, .string s] w (fun e w' => e = .returned (getV s L) ∧ w' = w) := by
  have d0 := h.d0
  have HH := Lib.hid h
  obtain ⟨r, hr⟩ : ∃ r, getV s L = r := ⟨_, rfl⟩
  rw [hr]
  have HYES := Lib.hid (fun (k : Nat) (x : En) (hx : L[k]? = some x) (hs : x.1 = s) (hb : ∀ e ∈ L.take k, decide (e.1 = s) = false) => (by
    rw [← hr]; unfold getV lget; rw [find_at hx (decide_eq_true hs) hb]; rfl : r = .tuple #[.int .i64 x.2, .int .i64 0]))
  have HNO := Lib.hid (fun (hb : ∀ e ∈ L, decide (e.1 = s) = false) => (by
    rw [← hr]; unfold getV lget; rw [List.find?_eq_none.2 fun y hy => by rw [hb y hy]; decide]; rfl : r = .tuple #[.int .i64 0, .int .i64 2]))
  generalize hn : L.length = n at *
  have HN2 := Lib.hid hn
  clear hn hr h
  go_enter Try.func15, Try.ntmps15
  go_wp2_with fail
  go_loopg [6] n (fun g s6 wr => ∃ k : Nat, g + k = n ∧ s6 = .int .i64 k ∧ Hid (∀ e ∈ L.take k, decide (e.1 = s) = false) ∧ wr = w)
  case atStart => exact ⟨0, by omega, rfl, Lib.hid (by simp), rfl⟩
  case round =>
    obtain ⟨k, hgk, rfl, HB, rfl⟩ := hrel
    by_cases hkn : k < n
    · have hx : L[k]? = some (L[k]'(by rw [HN2.out]; exact hkn)) := List.getElem?_eq_getElem _
      obtain ⟨G, rfl, f0, f1⟩ := HH.out.at_ hx
      generalize L[k]'(by rw [HN2.out]; exact hkn) = x at *
      by_cases hs : x.1 = s
      · have HR := Lib.hid (HYES.out k x hx hs HB.out)
        have hq : (x.1.toList == s.toList) = true := by rw [beq_names]; exact decide_eq_true hs
        obtain ⟨xs, xv⟩ := x
        dsimp only at f0 f1 hq
        clear hx hs HYES HNO
        go_wp2_with fail
        try rw [Exit.noGoto_ret]
        go_ret2
        exact ⟨by rw [HR.out]; first | done | rfl, rfl⟩
      · have HB2 := Lib.hid (before_next hx (decide_eq_false hs) HB.out)
        have hq : (x.1.toList == s.toList) = false := by rw [beq_names]; exact decide_eq_false hs
        obtain ⟨xs, xv⟩ := x
        dsimp only at f0 f1 hq
        clear hx hs HYES HNO
        go_wp2_with fail
        go_roundg (gk - 1)
        case measure => omega
        case rel => exact ⟨k + 1, by omega, by go_num, HB2, rfl⟩
    · have HR := Lib.hid (HNO.out (by have := HB.out; rwa [List.take_of_length_le (by rw [HN2.out]; omega)] at this))
      have hjn : ¬ ((k : Int) < (n : Int)) := by omega
      clear HYES HNO hkn
      go_wp2_with fail
      go_ret2
      exact ⟨by rw [HR.out]; first | done | rfl, rfl⟩

set_option maxHeartbeats 2000000 in
theorem rnext_any (D lo c : Nat) (o : Option Nat) (L : List En) (s : ByteArray) (w : World) (hN : L.length ≤ 1000000) (hm : s.size ≤ 9223372036854775807) (hL : ∀ e ∈ L, e.1.size ≤ 9223372036854775807) (h : Du w D lo o c L) :
    Calls Try.prog 17 #[Pq D, .string s] w (RetV w (nextV s L)) := by
  have hD := h.lt
  have HH := Lib.hid h
  have HLS := Lib.hid hL
  obtain ⟨r, hr⟩ : ∃ r, nextV s L = r := ⟨_, rfl⟩
  rw [hr]
  have HYES := Lib.hid (fun (k : Nat) (x : En) (hx : L[k]? = some x) (hs : lessB s x.1 = true) (hb : ∀ e ∈ L.take k, lessB s e.1 = false) => (by
    rw [← hr]; unfold nextV lnext; rw [find_at hx hs hb] : r = .tuple #[Ev x, .bool true]))
  have HNO := Lib.hid (fun (hb : ∀ e ∈ L, lessB s e.1 = false) => (by
    rw [← hr]; unfold nextV lnext; rw [List.find?_eq_none.2 fun y hy => by rw [hb y hy]; decide] : r = .tuple #[Ev (⟨#[]⟩, 0), .bool false]))
  have HB0 := Lib.hid (below_alloc w (.cells #[.string ⟨#[]⟩, .int .i64 0] 37))
  have b0 : (w.alloc (.cells #[.string ⟨#[]⟩, .int .i64 0] 37)).cell? ⟨w.heap.size, 0, none⟩ = some (.string ⟨#[]⟩) := by simp
  have b1 : (w.alloc (.cells #[.string ⟨#[]⟩, .int .i64 0] 37)).cell? ⟨w.heap.size, 1, none⟩ = some (.int .i64 0) := by simp
  have b2 : (w.alloc (.cells #[.string ⟨#[]⟩, .int .i64 0] 37)).frozen? ⟨w.heap.size, 0, none⟩ = false := by simp
  have b3 : (w.alloc (.cells #[.string ⟨#[]⟩, .int .i64 0] 37)).frozen? ⟨w.heap.size, 1, none⟩ = false := by simp
  generalize hn : L.length = n at *
  have HN2 := Lib.hid hn
  have HX := Lib.hid (show w.heap.size < (w.alloc (.cells #[.string ⟨#[]⟩, .int .i64 0] 37)).heap.size by rw [World.size_alloc]; omega)
  have B0 := Lib.hid b0
  have B1 := Lib.hid b1
  have B2 := Lib.hid b2
  have B3 := Lib.hid b3
  clear hn hr h b0 b1 b2 b3 hL
  unfold RetV
  go_enter Try.func17, Try.ntmps17
  go_wp2_with fail
  go_loopg [6] n (fun g s6 wr => ∃ k : Nat, g + k = n ∧ s6 = .int .i64 k ∧ Hid (∀ e ∈ L.take k, lessB s e.1 = false) ∧ Hid (Below (w.alloc (.cells #[.string ⟨#[]⟩, .int .i64 0] 37)).heap.size (w.alloc (.cells #[.string ⟨#[]⟩, .int .i64 0] 37)) wr))
  case atStart => exact ⟨0, by omega, rfl, Lib.hid (by simp), Lib.hid (Below.refl _ _)⟩
  case round =>
    obtain ⟨k, hgk, rfl, HB, HW⟩ := hrel
    have c0 := (HW.out.cell (p := ⟨w.heap.size, 0, none⟩) HX.out).trans B0.out
    have c1 := (HW.out.cell (p := ⟨w.heap.size, 1, none⟩) HX.out).trans B1.out
    have c2 := (HW.out.frozen (p := ⟨w.heap.size, 0, none⟩) HX.out).trans B2.out
    have c3 := (HW.out.frozen (p := ⟨w.heap.size, 1, none⟩) HX.out).trans B3.out
    have HWW := Lib.hid (below_step HB0.out HW.out)
    have HDr := Lib.hid (HH.out.below HWW.out)
    have d0 := HDr.out.d0
    rw [HN2.out] at d0
    have hwz : w.heap.size < wr.heap.size := Nat.lt_of_lt_of_le HX.out HW.out.size
    by_cases hkn : k < n
    · have hx : L[k]? = some (L[k]'(by rw [HN2.out]; exact hkn)) := List.getElem?_eq_getElem _
      obtain ⟨G, rfl, f0, f1⟩ := HDr.out.at_ hx
      have hxs := HLS.out _ (List.mem_of_getElem? hx)
      generalize L[k]'(by rw [HN2.out]; exact hkn) = x at *
      have HC := Lib.hid (rless_any s x.1 wr hm hxs)
      cases hs : lessB s x.1
      · have HB2 := Lib.hid (before_next (p := fun e => lessB s e.1) hx hs HB.out)
        rw [hs] at HC
        obtain ⟨xs, xv⟩ := x
        dsimp only at f0 f1 HC
        clear hx hs HYES HNO c0 c1 c2 c3 hxs
        go_wp2_with fail
        refine HC.out.mono ?_
        rintro e w3 ⟨rfl, hb3⟩
        have HW3 := Lib.hid (below_step HW.out hb3)
        clear hb3 HC
        go_wp2_with fail
        go_roundg (gk - 1)
        case measure => omega
        case rel => exact ⟨k + 1, by omega, by go_num, HB2, HW3⟩
      · have HR := Lib.hid (HYES.out k x hx hs HB.out)
        rw [hs] at HC
        obtain ⟨xs, xv⟩ := x
        dsimp only at f0 f1 HC HR
        clear hx hs HYES HNO hxs
        go_wp2_with fail
        refine HC.out.mono ?_
        rintro e w3 ⟨rfl, hb3⟩
        have HW3 := Lib.hid (below_step HWW.out hb3)
        have e0 := (hb3.cell (p := ⟨w.heap.size, 0, none⟩) hwz).trans c0
        have e1 := (hb3.cell (p := ⟨w.heap.size, 1, none⟩) hwz).trans c1
        have e2 := (hb3.frozen (p := ⟨w.heap.size, 0, none⟩) hwz).trans c2
        have e3 := (hb3.frozen (p := ⟨w.heap.size, 1, none⟩) hwz).trans c3
        have g0 := (hb3.cell (p := ⟨G, k * 2, none⟩) (World.block_lt_of_cell? _ _ f0)).trans f0
        have g1 := (hb3.cell (p := ⟨G, k * 2 + 1, none⟩) (World.block_lt_of_cell? _ _ f1)).trans f1
        have dd := (hb3.cell (p := ⟨D, 0, none⟩) (World.block_lt_of_cell? _ _ d0)).trans d0
        clear hb3 HC c0 c1 c2 c3 f0 f1 d0
        go_wp2_with fail
        try rw [Exit.noGoto_ret]
        refine bodyPost_ret (v := .tuple #[Ev (xs, xv), .bool true]) (by simp [results, Try.results17, go_sem, e0, e1]) rfl ⟨by rw [HR.out], ?_⟩
        exact (HW3.out.setCell (by simp) _).setCell (by simp) _
    · have HR := Lib.hid (HNO.out (by have := HB.out; rwa [List.take_of_length_le (by rw [HN2.out]; omega)] at this))
      have hjn : ¬ ((k : Int) < (n : Int)) := by omega
      clear HYES HNO hkn
      go_wp2_with fail
      refine bodyPost_ret (v := .tuple #[Ev (⟨#[]⟩, 0), .bool false]) (by simp [results, Try.results17, go_sem, c0, c1]) rfl ⟨by rw [HR.out], ?_⟩
      exact (HWW.out.setCell (by simp) _).setCell (by simp) _
end Go.Proofs.Ytchjidijgdkhoaa
