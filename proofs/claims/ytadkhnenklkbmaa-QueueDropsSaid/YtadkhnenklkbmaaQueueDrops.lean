/- For every list of acts and every number the law QueueDrops returns true, and what is handed in reads as it did; there are no conditions. -/
import Derived.Test.YtadkhnenklkbmaaTwo
import Derived.Test.YtadkhnenklkbmaaOpen
import Derived.Deep.RegionWith
import Derived.ProofKit
import Derived.OpenShut
namespace Go.Proofs.Ytadkhnenklkbmaa.queueDrops
open Go.ChangeShapes Go.WideShapes Go.ChangeAt Go.RowKit
set_option linter.unusedVariables false

theorem own : ownKnob Try.prog.godebug = none := by kernel_rfl
theorem laid : laidOutB Try.prog = true := by kernel_rfl

theorem len_filter {m : Int} (L : List KN) : (L.filter (keepN m)).length ≤ L.length := List.length_filter_le _ _
theorem any_keep (m : Int) (L : List KN) : (L.filter (keepN m)).any (fun x => x.2 == m) = false := by
  rw [List.any_eq_false]
  intro x hx
  have := (List.mem_filter.1 hx).2
  simpa [keepN] using this
/-- What the loop has made of the first acts. -/
def Mid (m : Int) (L K : List KN) (many : Nat) : Prop := K = L.filter (keepN m) ∧ L.length = K.length + many
theorem Mid.keep {m k x : Int} {L K : List KN} {many : Nat} (h : Mid m L K many) (hs : Sorted L) (hx : x ≠ m) : Mid m (ins (k, x) L) (ins (k, x) K) many := by
  obtain ⟨rfl, h2⟩ := h
  have hk : keepN m (k, x) = true := by simpa [keepN] using hx
  refine ⟨by rw [filter_ins _ _ _ hs, hk]; rfl, by rw [ins_length, ins_length, h2]; omega⟩
theorem Mid.drop {m k x : Int} {L K : List KN} {many : Nat} (h : Mid m L K many) (hs : Sorted L) (hx : x = m) : Mid m (ins (k, x) L) K (many + 1) := by
  obtain ⟨rfl, h2⟩ := h
  have hk : keepN m (k, x) = false := by simp [keepN, hx]
  refine ⟨by rw [filter_ins _ _ _ hs, hk]; rfl, by rw [ins_length, h2]; omega⟩

set_option maxHeartbeats 4000000 in
set_option maxRecDepth 100000 in
theorem walk (A : Option Addr) (n c : Nat) (F : Nat → Act3) (m : Int) (w : World) (k1 : n ≤ c ∧ c ≤ maxLen) (hF : Acts w w.heap.size A n F) :
    Calls Try.prog 5 #[.slice A n c, .int .i64 m] w (AwakeE w) := by
  have hnm : n ≤ 9223372036854775807 := by have := k1.1; have := k1.2; unfold maxLen at this; omega
  clear k1
  go_enter Try.func5, Try.ntmps5
  go_wp2_with fail
  refine (awake_any _).mono ?_
  rintro e w1 ⟨rfl, hb1⟩
  go_wp2_with fail
  refine (lnew w1 w.heap.size hb1.size).mono ?_
  rintro e w2 ⟨rfl, h2, hb2⟩
  go_wp2_with fail
  refine (lnew w2 w.heap.size (Nat.le_trans hb1.size hb2.size)).mono ?_
  rintro e w3 ⟨rfl, h3, hb3⟩
  have HT0 := Lib.hid (two_new hb1 h2 hb2 h3 hb3)
  generalize w1.heap.size = Q at *
  generalize w2.heap.size = P at *
  clear h2 h3 hb1 hb2 hb3
  go_wp2_with fail
  go_loopg [7, 8] 200 (fun g s7 s8 wr => ∃ (k many : Nat) (L K : List KN), g + k = 200 ∧ k ≤ n ∧ many ≤ k ∧ s7 = .int .i64 many ∧ s8 = .int .i64 k ∧ Hid (Mid m L K many) ∧ Hid (Two w wr Q P (fun _ => False) L K (2 * k)))
  case atStart => exact ⟨0, 0, [], [], by omega, by omega, by omega, rfl, rfl, Lib.hid ⟨rfl, rfl⟩, HT0⟩
  case round =>
    clear HT0
    obtain ⟨k, many, L, K, hgk, hk, hmk, rfl, rfl, HM, HT⟩ := hrel
    have hk200 : k ≤ 200 := by omega
    by_cases hgo : k < n ∧ k < 200
    · obtain ⟨hkn, hk2⟩ := hgo
      obtain ⟨b, off, rfl, hbl, f0, f1, f2⟩ := (hF.below HT.out.bel) k hkn
      generalize F k = x at *
      obtain ⟨xk, xe, xn⟩ := x
      dsimp only at f0 f1 f2
      have HB := Lib.hid (HT.out.box (.cells #[.int .i64 xk, .int .i64 xe, .int .i64 xn] 31))
      by_cases h0 : xk = 0
      · subst h0
        have HP := Lib.hid (two_push HB.out (by omega) xe xn)
        go_wp2_with fail
        refine HP.out.mono ?_
        rintro e w4 ⟨rfl, ht4, hs4⟩
        have hbl4 := hs4 _ rfl
        have c2 := (World.cell?_of_block (a := ⟨wr.heap.size, 2, none⟩) hbl4).trans (show _ = some (.int .i64 xn) by simp)
        have c1 := (World.cell?_of_block (a := ⟨wr.heap.size, 1, none⟩) hbl4).trans (show _ = some (.int .i64 xe) by simp)
        have HT4 := Lib.hid ht4
        clear ht4 hs4 hbl4 HP
        by_cases hx : xn = m
        · have HM2 := Lib.hid (HM.out.drop (k := xe) HT.out.sortedQ hx)
          have hxb : (xn != m) = false := by simpa using hx
          have hxb2 : (xn == m) = true := by simpa using hx
          have HX := Lib.hid hx
          clear hx
          go_wp2_with fail
          go_roundg (gk - 1)
          case measure => omega
          case rel => exact ⟨k + 1, many + 1, _, _, by omega, by omega, by omega, by go_num, by go_num, HM2, Lib.hid (HT4.out.forget (by omega))⟩
        · have HM2 := Lib.hid (HM.out.keep (k := xe) HT.out.sortedQ hx)
          have hxb : (xn != m) = true := by simpa using hx
          have hxb2 : (xn == m) = false := by simpa using hx
          have HX := Lib.hid hx
          have HP2 := Lib.hid (two_push HT4.out.symm (by omega) xe xn)
          clear hx
          go_wp2_with fail
          refine HP2.out.mono ?_
          rintro e w5 ⟨rfl, ht5, hs5⟩
          have HT5 := Lib.hid ht5.symm
          clear ht5 hs5 c1 c2 HP2
          go_wp2_with fail
          go_roundg (gk - 1)
          case measure => omega
          case rel => exact ⟨k + 1, many, _, _, by omega, by omega, by omega, by go_num, by go_num, HM2, Lib.hid (HT5.out.forget (by omega))⟩
      · have h0b : (xk != 0) = true := by simpa using h0
        have h0c : (xk == 0) = false := by simpa using h0
        have HX := Lib.hid h0
        clear h0
        go_wp2_with fail
        go_roundg (gk - 1)
        case measure => omega
        case rel => exact ⟨k + 1, many, _, _, by omega, by omega, by omega, by go_num, by go_num, HM, Lib.hid (HB.out.forget (by omega))⟩
    · have HD := Lib.hid (show Calls Try.prog 14 #[Pq Q, .int .i64 m] wr (fun e w' => e = .returned (.int .i64 many) ∧ Two w w' Q P (fun _ => False) K K (2 * k)) from
        (two_drop HT.out (by omega) m).mono fun _ _ ⟨he, ht, _⟩ => by
          obtain ⟨rfl, hl⟩ := HM.out
          exact ⟨by rw [he, hl]; congr 2; omega, ht⟩)
      have HK := Lib.hid (show K.any (fun x => x.2 == m) = false by rw [HM.out.1]; exact any_keep m L)
      have hsplit : (k < n ∧ k = 200) ∨ ¬ k < n := by omega
      clear hgo
      rcases hsplit with ⟨hkn, rfl⟩ | hkn
      all_goals
        go_wp2_with fail
        refine HD.out.mono ?_
        rintro e w4 ⟨rfl, ht4⟩
        have HH := Lib.hid (two_has ht4 (by omega) m)
        rw [HK.out] at HH
        clear ht4 HD HT HM
        go_wp2_with fail
        refine HH.out.mono ?_
        rintro e w5 ⟨rfl, ht5, -⟩
        have HT5 := Lib.hid ht5
        have HL1 := Lib.hid (two_len ht5)
        have HL2 := Lib.hid (two_len ht5.symm)
        clear ht5 HH HK
        go_wp2_with fail
        refine HL1.out.mono ?_
        rintro e w6 ⟨rfl, rfl⟩
        go_wp2_with fail
        refine HL2.out.mono ?_
        rintro e w6 ⟨rfl, rfl⟩
        clear HL1 HL2
        go_wp2_with fail
        go_loopg [10] K.length (fun g s wr => ∃ M : List KN, g = M.length ∧ Hid (Two w wr Q P (fun _ => False) M M 400))
        case atStart => exact ⟨K, rfl, Lib.hid (HT5.out.forget (by omega))⟩
        case round =>
          clear HT5
          obtain ⟨M, hM, HT⟩ := hrel
          have HM := Lib.hid hM
          clear hM
          have HP := Lib.hid (two_pop HT.out (by omega))
          cases M with
          | nil =>
            rw [show popV [] = .tuple #[.int .i64 0, .int .i64 0, .bool false] from rfl] at HP
            go_wp2_with fail
            refine HP.out.mono ?_
            rintro e w7 ⟨rfl, ht7, -⟩
            have HP2 := Lib.hid (two_pop ht7.symm (by omega))
            rw [show popV [] = .tuple #[.int .i64 0, .int .i64 0, .bool false] from rfl] at HP2
            clear ht7 HP
            go_wp2_with fail
            refine HP2.out.mono ?_
            rintro e w8 ⟨rfl, ht8, -⟩
            have HT8 := Lib.hid ht8
            clear ht8 HP2
            go_wp2_with fail
            go_ret
            exact ⟨rfl, HT8.out.bel⟩
          | cons a M =>
            obtain ⟨ak, an⟩ := a
            rw [show popV ((ak, an) :: M) = .tuple #[.int .i64 ak, .int .i64 an, .bool true] from rfl] at HP
            go_wp2_with fail
            refine HP.out.mono ?_
            rintro e w7 ⟨rfl, ht7, -⟩
            have HP2 := Lib.hid (two_pop ht7.symm (by omega))
            rw [show popV ((ak, an) :: M) = .tuple #[.int .i64 ak, .int .i64 an, .bool true] from rfl] at HP2
            clear ht7 HP
            go_wp2_with fail
            refine HP2.out.mono ?_
            rintro e w8 ⟨rfl, ht8, -⟩
            have HT8 := Lib.hid ht8.symm
            clear ht8 HP2
            go_wp2_with fail
            go_roundg M.length
            case measure => have := HM.out; simp at this; omega
            case rel => exact ⟨M, rfl, HT8⟩

set_option maxRecDepth 100000 in
theorem lifted (os : Os) (started : os.Started) (H : Type) (enc : TypeId × Value → H) :
    ReturnsInHanded {} Try.checked os 5 .any (Rows.queueDropsSpec.pre6 enc Try.prog Try.f5 Rows.queueDropsRow.domain false) (Rows.queueDropsSpec.post enc Try.prog Try.f5 false true false false) := by
  refine returnsInHanded_of_change (C := Try.checked) own started (by kernel_rfl) Try.func5
    (ChangeSpec.witness6 (enc := enc) (C := Try.checked) false ⟨#[], #[.slice none 0 0, .int .i64 0], []⟩ 8 (by kernel_rfl) (by kernel_rfl) (by kernel_rfl) (by kernel_rfl)) ?_
  intro W base args ds gs before hval0 hW hcnd _
  have hval : ∀ (j : Nat) t v, Try.f5.params[j]? = some t → args[j]? = some v → Value.okWide Try.prog W .any base t v := hval0
  have hW' := hW
  obtain ⟨p, q, hA0, hV, rfl, hfz, hnd⟩ := hW
  have hA : DataW.TrodAll enc Try.prog W 0 (fun _ => true) true Try.f5.params.toList args.toList ds p := hA0
  rw [Try.params5] at hA hval
  obtain ⟨v0, vs0, d0, ds0, p0, q0, hargs, rfl, rfl, h0, r0⟩ := trodAll_cons hA
  obtain ⟨v1, vs1, d1, ds1, p1, q1, rfl, rfl, rfl, h1, r1⟩ := trodAll_cons r0
  obtain ⟨rfl, rfl, rfl⟩ := trodAll_nil r1
  obtain rfl : args = #[v0, v1] := by cases args; simp_all
  obtain ⟨rfl, rfl⟩ := trodVars_none hV
  have hlt := fun x hx => hW'.lt x hx
  have t0 := h0
  obtain ⟨A0, n0, c0, x0, rfl, e0, s0⟩ := open_acts (hval 0 22 v0 rfl rfl) h0
  obtain ⟨a1, rfl, rfl, rfl, w1⟩ := open_int Try.underlying3 (hval 1 3 v1 rfl rfl) h1
  clear hA0 hval0
  refine (walk A0 n0 c0 x0 a1 W e0 s0).mono fun e W' ⟨he, hg⟩ => ?_
  subst he
  exact ⟨_, rfl, law_post (pv := []) hW' (fun _ _ _ => (trodAll_cons_mk (shut_bool Try.underlying4 _) trodAll_mk0)) (fun sp hsp => (trodAll_cons_mk (arg_stays (by decide) t0 hg (by simp +contextual) hlt hsp laid) (trodAll_cons_mk (shut_int Try.underlying3 w1) trodAll_mk0))) (fun _ _ => rfl) (by simp)
    hg (ok_one (by kernel_rfl) rfl (okWide_bool_mk Try.underlying4 _))⟩

theorem over : Rows.queueDropsRow.holds Try.pinned (OpenSpec.ofChange Rows.queueDropsSpec) :=
  OpenClaim.holds_of_wide 5 Try.f5 rfl rfl rfl rfl rfl rfl rfl ⟨rfl, rfl, rfl, rfl, rfl⟩ rfl rfl rfl rfl rfl (by kernel_rfl) Try.func5 (by kernel_rfl)
    (of_decide_eq_true (by kernel_rfl)) (by unfold Func.isWrapper; first | (rw [if_pos (by decide +kernel)]; kernel_rfl) | (rw [if_neg (by decide +kernel)]; exact ⟨rfl, rfl⟩))
    (fun os started H enc _ => lifted os started H enc)

/-- The statement. -/
theorem proved : Rows.QueueDropsSaid :=
  over
end Go.Proofs.Ytadkhnenklkbmaa.queueDrops
