/- The code's 'Clash'. -/
import Derived.Test.YtlplbpilpkmoaaaQo
namespace Go.Proofs.Ytlplbpilpkmoaaa.pl
open Go.RowKit
set_option linter.unusedVariables false
set_option linter.unusedSimpArgs false

/-- A map of the first i wants by their numbers. -/
structure MO (o : List Wt) (i : Nat) (f : Int → Option Value) : Prop where
  pl : ∀ a v, f a = some v → ∃ k : Nat, k < i ∧ (gw o k).n = a ∧ v = Wv (gw o k)
  pn : ∀ k, k < i → f (gw o k).n ≠ none
theorem mo_start (o : List Wt) : MO o 0 (fun _ => none) := ⟨fun a v h => (nomatch h), fun k hk => by omega⟩
theorem MO.next {o : List Wt} {i : Nat} {f : Int → Option Value} (h : MO o i f) : MO o (i + 1) (sc.ups f (gw o i).n (Wv (gw o i))) := by
  refine ⟨fun a v hv => ?_, fun k hk => ?_⟩
  · by_cases e : a = (gw o i).n
    · subst e
      rw [ups_same] at hv
      injection hv with hv
      exact ⟨i, by omega, rfl, hv.symm⟩
    · rw [ups_other _ e] at hv
      obtain ⟨k, hk, h1, h2⟩ := h.pl a v hv
      exact ⟨k, by omega, h1, h2⟩
  · by_cases e : (gw o k).n = (gw o i).n
    · rw [e, ups_same]; simp
    · rw [ups_other _ e]
      exact h.pn k (by have : k ≠ i := fun e2 => e (by rw [e2]); omega)
theorem bars_left {a o b : List Wt} (h : Summ a o) : Bars a b ↔ ∃ u ∈ o, ∃ y ∈ b, u.n = y.n ∧ (u.w = true ∨ y.w = true) := by
  constructor
  · rintro ⟨x, hx, y, hy, e, hw⟩
    obtain ⟨u, hu, e2⟩ := h.all x hx
    exact ⟨u, hu, y, hy, e2.trans e, hw.imp (fun h2 => (h.wr u hu).2 ⟨x, hx, e2.symm, h2⟩) id⟩
  · rintro ⟨u, hu, y, hy, e, hw⟩
    rcases hw with hw | hw
    · obtain ⟨z, hz, e2, h2⟩ := (h.wr u hu).1 hw
      exact ⟨z, hz, y, hy, e2.trans e, .inl h2⟩
    · obtain ⟨z, hz, e2, _⟩ := h.deep u hu
      exact ⟨z, hz, y, hy, e2.trans e, .inr hw⟩
theorem zeroW (w : World) : (zeroValue 39).run Try.prog w = .ok (Wv ⟨0, 0, false⟩) w := by kernel_rfl
set_option maxRecDepth 100000 in
set_option maxHeartbeats 4000000 in
theorem clash_any {w : World} {A1 A2 : Option Addr} {a b : List Wt} {c1 c2 : Nat} (h1 : Wan w w.heap.size A1 a) (h2 : Wan w w.heap.size A2 b) (wa : ∀ x ∈ a, sc.Wf x.n) (wb : ∀ x ∈ b, sc.Wf x.n) (l1 : a.length ≤ 10000) (l2 : b.length ≤ 10000) :
    Calls Try.prog 14 #[.slice A1 a.length c1, .slice A2 b.length c2] w (RetB w (bars a b)) := by
  have hal := hp.below_alloc w (.map #[] 0)
  have HO := Lib.hid (order_any (w := w.alloc (.map #[] 0)) (c1 := c1) ((h1.below hal).le (by simp)) wa l1)
  have H2 := Lib.hid h2
  have HWB := Lib.hid wb
  have HWA := Lib.hid wa
  obtain ⟨m, hm⟩ : ∃ m, b.length = m := ⟨_, rfl⟩
  obtain ⟨n, hn⟩ : ∃ n, a.length = n := ⟨_, rfl⟩
  have HM := Lib.hid hm
  have HN := Lib.hid hn
  rw [hm] at l2 ⊢
  rw [hn] at l1 HO ⊢
  clear h1 h2 wa wb hal hn hm
  have hmm := @run_makeMap Try.prog 64 w
  unfold RetB
  unfold OrdE at HO
  go_enter Try.func14, Try.ntmps14
  go_wp2_with fail
  refine HO.out.mono ?_
  rintro _ w2 ⟨v, o, rfl, hord, how, hb2⟩
  have HORD := Lib.hid hord
  have HB2 := Lib.hid ((hp.below_alloc w (.map #[] 0)).trans (hb2.mono (by simp)))
  have HM2 := Lib.hid ((sc.MapV.made w).of_block (hb2.block w.heap.size (by simp)))
  obtain ⟨A, c, rfl⟩ := how.form
  have HOW := Lib.hid how
  have hlen : o.length ≤ n := by rw [← HN.out]; exact hord.len
  have HOM := Lib.hid (fun x (hx : x ∈ o) => (show sc.Wf x.n from by
    obtain ⟨z, hz, e, _⟩ := hord.summ.deep x hx
    rw [← e]; exact HWA.out z hz))
  obtain ⟨q, hq⟩ : ∃ q, o.length = q := ⟨_, rfl⟩
  have HQ := Lib.hid hq
  rw [hq] at HOW hlen ⊢
  have HS2 := Lib.hid (show w.heap.size < w2.heap.size from by have := hb2.size; rw [World.size_alloc] at this; omega)
  have HOL := Lib.hid (fun g (e : (Value.slice A q c).ownBlock = some g) => (show w.heap.size + 1 ≤ g ∧ g < w2.heap.size from by have := HOW.out.olt e; rw [World.size_alloc] at this; exact this))
  clear HO hord how hb2 hmm hq
  go_wp2_with fail
  go_loopg [16] q (fun gk u16 wx => ∃ (i : Nat) (f : Int → Option Value) (N S : Nat), u16 = .int .i64 i ∧ gk + i = q ∧ N = i ∧ Hid (sc.MapV wx w.heap.size N S f) ∧ Hid (MO o i f) ∧ Hid (Below w.heap.size w wx) ∧ Hid (∀ g, w.heap.size + 1 ≤ g → g < w2.heap.size → wx.heap[g]? = w2.heap[g]?) ∧ Hid (w2.heap.size ≤ wx.heap.size))
  case atStart => exact ⟨0, fun _ => none, 0, 0, rfl, by omega, rfl, HM2, Lib.hid (mo_start o), HB2, Lib.hid (fun g _ _ => rfl), Lib.hid (Nat.le_refl _)⟩
  case round =>
    clear HM2 HB2
    obtain ⟨i, f, N, S, rfl, hg, rfl, HMV, HMO, HB, HKP, HSZ⟩ := hrel
    obtain ⟨gJ, hJ⟩ : ∃ g, gk = g := ⟨_, rfl⟩
    have HOX := Lib.hid ((HOW.out.keep (w' := wr) fun g e => HKP.out g (HOL.out g e).1 (HOL.out g e).2))
    by_cases hi : N < q
    · have hi2 : (N : Int) < (q : Int) := by omega
      obtain ⟨g1, o1, rfl, hg1, x1, x2, x3⟩ := HOX.out.wan N (by rw [HQ.out]; exact hi)
      have HWX := Lib.hid (HOM.out (gw o N) (gw_mem (by rw [HQ.out]; exact hi)))
      have HNX := Lib.hid HMO.out.next
      obtain ⟨x, hx⟩ : ∃ x, gw o N = x := ⟨_, rfl⟩
      rw [hx] at x1 x2 x3 HWX HNX
      obtain ⟨xd, xn, xw⟩ := x
      dsimp only at x1 x2 x3 HWX HNX
      have hal := hp.below_alloc wr (.cells #[.int .i64 xd, .int .i64 xn, .bool xw] 39)
      obtain ⟨w4, hrun, hm4, hg4⟩ := (HMV.out.of_block (hal.block _ HMV.out.lt)).put Try.underlying64 (by omega) HWX.out (Wv ⟨xd, xn, xw⟩)
      have HM4 := Lib.hid hm4
      have HSW := Lib.hid HB.out.size
      have HB4 := Lib.hid ((HB.out.alloc HSW.out _).grown hg4 (by rw [World.size_alloc]; have := HSW.out; omega) (fun g e => by injection e with e; omega))
      have HK4 := Lib.hid (fun g (h1 : w.heap.size + 1 ≤ g) (h2 : g < w2.heap.size) => (show w4.heap[g]? = w2.heap[g]? from (hg4.block g (by rw [World.size_alloc]; have := HSZ.out; omega) (fun e => by injection e with e; omega)).trans ((hal.block g (by have := HSZ.out; omega)).trans (HKP.out g h1 h2))))
      have HS4 := Lib.hid (show w2.heap.size ≤ w4.heap.size from by have := hg4.size; rw [World.size_alloc] at this; have := HSZ.out; omega)
      clear hx hm4 hg4 hal
      go_wp2_with fail
      go_roundg (gJ - 1)
      case measure => omega
      case rel => exact ⟨N + 1, _, _, _, by go_num, by omega, rfl, HM4, HNX, HB4, HK4, HS4⟩
    · have HMQ := Lib.hid (show MO o q f from by have : N = q := by omega
                                                 rw [← this]; exact HMO.out)
      clear HKP HOX HMO
      go_wp2_with fail
      go_loopg [27] m (fun gk u27 wx => ∃ (k : Nat), u27 = .int .i64 k ∧ gk + k = m ∧ Hid (sc.MapV wx w.heap.size N S f) ∧ Hid (Below w.heap.size w wx) ∧ Hid (∀ j, j < k → ∀ x ∈ o, x.n = (gw b j).n → x.w = false ∧ (gw b j).w = false))
      case atStart => exact ⟨0, rfl, by omega, HMV, HB, Lib.hid fun j hj => by omega⟩
      case round =>
        clear HMV HB HSZ
        obtain ⟨k, rfl, hg2, HMV, HB, HNO⟩ := hrel
        obtain ⟨gJ2, hJ2⟩ : ∃ g, gk = g := ⟨_, rfl⟩
        by_cases hk : k < m
        · have hk2 : (k : Int) < (m : Int) := by omega
          obtain ⟨g1, o1, rfl, hg1, x1, x2, x3⟩ := (H2.out.below HB.out) k (by rw [HM.out]; exact hk)
          have HWX := Lib.hid (HWB.out (gw b k) (gw_mem (by rw [HM.out]; exact hk)))
          have HYM := Lib.hid (show gw b k ∈ b from gw_mem (by rw [HM.out]; exact hk))
          obtain ⟨x, hx⟩ : ∃ x, gw b k = x := ⟨_, rfl⟩
          rw [hx] at x1 x2 x3 HWX HYM
          have HX := Lib.hid hx
          obtain ⟨xd, xn, xw⟩ := x
          dsimp only at x1 x2 x3 HWX
          have hal := hp.below_alloc wr (.cells #[.int .i64 xd, .int .i64 xn, .bool xw] 39)
          have HMV2 := Lib.hid (HMV.out.of_block (hal.block _ HMV.out.lt))
          have hlk := look2 HMV2.out Try.underlying64 (zeroW _) HWX.out
          have HB4 := Lib.hid (HB.out.alloc HB.out.size (.cells #[.int .i64 xd, .int .i64 xn, .bool xw] 39))
          have HSB := Lib.hid HB4.out.size
          clear hx hal
          cases hf : f xn with
          | none =>
            rw [hf] at hlk
            simp only [Option.getD, Option.isSome] at hlk
            have HFN := Lib.hid hf
            clear hf
            go_wp2_with fail
            go_roundg (gJ2 - 1)
            case measure => omega
            case rel => exact ⟨k + 1, by go_num, by omega, Lib.hid (HMV2.out.of_block ((hp.below_alloc _ _).block _ HMV2.out.lt)), Lib.hid (HB4.out.alloc HSB.out _), Lib.hid fun j hj x hxo e => by
              by_cases ej : j = k
              · subst ej
                rw [HX.out] at e
                obtain ⟨r, hr, rfl⟩ := mem_gw hxo
                exact absurd (by rw [e]; exact HFN.out) (HMQ.out.pn r (by rw [← HQ.out]; exact hr))
              · exact HNO.out j (by omega) x hxo e⟩
          | some v =>
            obtain ⟨r, hr, hrn, rfl⟩ := HMQ.out.pl _ _ hf
            rw [hf] at hlk
            simp only [Option.getD, Option.isSome] at hlk
            have HU := Lib.hid (show gw o r ∈ o from gw_mem (by rw [HQ.out]; exact hr))
            have HON := Lib.hid (fun x (hx : x ∈ o) (e : x.n = xn) => (show x = gw o r from HORD.out.summ.one HORD.out.summ hx HU.out (e.trans hrn.symm)))
            obtain ⟨u, hu⟩ : ∃ u, gw o r = u := ⟨_, rfl⟩
            rw [hu] at hlk hrn HU HON
            obtain ⟨ud, un, uw⟩ := u
            dsimp only at hlk hrn
            have HRN := Lib.hid hrn
            have HYES := Lib.hid (show uw = true ∨ xw = true → bars a b = true from fun h => (bars_iff _ _).2 ((bars_left HORD.out.summ).2 ⟨_, HU.out, _, HYM.out, HRN.out, h⟩))
            clear hf hu hrn
            cases xw
            · cases uw
              · go_wp2_with fail
                go_roundg (gJ2 - 1)
                case measure => omega
                case rel => exact ⟨k + 1, by go_num, by omega, Lib.hid (HMV2.out.of_block ((hp.below_alloc _ _).block _ HMV2.out.lt)), Lib.hid (HB4.out.alloc HSB.out _), Lib.hid fun j hj x hxo e => by
                  by_cases ej : j = k
                  · subst ej
                    rw [HX.out] at e ⊢
                    rw [HON.out x hxo e]
                    exact ⟨rfl, rfl⟩
                  · exact HNO.out j (by omega) x hxo e⟩
              · go_wp2_with fail
                go_ret
                exact ⟨by rw [HYES.out (by simp)]; rfl, HB4.out.alloc HSB.out _⟩
            · go_wp2_with fail
              go_ret
              exact ⟨by rw [HYES.out (by simp)]; rfl, HB4.out.alloc HSB.out _⟩
        · have HNB := Lib.hid (show bars a b = false from Bool.eq_false_iff.2 fun e => by
            obtain ⟨u, hu, y, hy, e2, hw⟩ := (bars_left HORD.out.summ).1 ((bars_iff _ _).1 e)
            obtain ⟨j, hj, rfl⟩ := mem_gw hy
            rw [HM.out] at hj
            obtain ⟨h1, h2⟩ := HNO.out j (by omega) u hu e2
            rw [h1, h2] at hw
            simp at hw)
          go_wp2_with fail
          go_ret
          exact ⟨by rw [HNB.out]; rfl, HB.out⟩
end Go.Proofs.Ytlplbpilpkmoaaa.pl
