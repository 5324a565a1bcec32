/- For every list of keys the law QueueRises returns true, and what is handed in reads as it did; there are no conditions. -/
import Derived.Test.YtadkhnenklkbmaaOne
import Derived.Test.YtadkhnenklkbmaaOpen
import Derived.Deep.RegionWith
import Derived.ProofKit
import Derived.OpenShut
namespace Go.Proofs.Ytadkhnenklkbmaa.queueRises
open Go.ChangeShapes Go.WideShapes Go.ChangeAt Go.RowKit
set_option linter.unusedVariables false

theorem own : ownKnob Try.prog.godebug = none := by kernel_rfl
theorem laid : laidOutB Try.prog = true := by kernel_rfl

theorem prs_mem {F : Nat → Int} {k : Nat} {y : KN} (h : y ∈ prs F k) : ∃ j : Nat, j < k ∧ y = (F j, (j : Int)) := by
  unfold prs at h
  obtain ⟨j, hj, e⟩ := List.mem_map.1 h
  exact ⟨j, List.mem_range.1 hj, e.symm⟩
theorem lex_push {F : Nat → Int} {k : Nat} {L : List KN} (h : L.Pairwise Lex) (hp : L.Perm (prs F k)) : (ins (F k, (k : Int)) L).Pairwise Lex :=
  ins_lex h fun y hy => by
    obtain ⟨j, hj, rfl⟩ := prs_mem (hp.mem_iff.1 hy)
    show (j : Int) < (k : Int)
    omega
/-- What is known of the queue while it is emptied. -/
structure Inv2 (F : Nat → Int) (N k : Nat) (was last : Int) (L : List KN) (f : Int → Bool) : Prop where
  len : L.length + k = N
  lex : L.Pairwise Lex
  src : ∀ y ∈ L, ∃ j : Nat, j < N ∧ y = (F j, (j : Int))
  new : ∀ y ∈ L, f y.2 = false
  low : 0 < k → ∀ y ∈ L, Lex (was, last) y
theorem Inv2.step {F : Nat → Int} {N k : Nat} {was last : Int} {a : KN} {l : List KN} {f : Int → Bool} (h : Inv2 F N k was last (a :: l) f) : Inv2 F N (k + 1) a.1 a.2 l (upd f a.2 true) := by
  have hs := List.pairwise_cons.1 h.lex
  refine ⟨by have := h.len; simp at this; omega, hs.2, fun y hy => h.src y (by simp [hy]), fun y hy => ?_, fun _ y hy => hs.1 y hy⟩
  unfold upd
  rw [if_neg, h.new y (by simp [hy])]
  intro e
  obtain ⟨i, _, ha⟩ := h.src a (by simp)
  obtain ⟨j, _, hy2⟩ := h.src y (by simp [hy])
  have hl := hs.1 y hy
  rw [ha, hy2] at e hl
  simp only at e
  have hij : i = j := by omega
  subst hij
  unfold Lex at hl
  omega

set_option maxHeartbeats 8000000 in
set_option maxRecDepth 100000 in
theorem walk (A : Option Addr) (n c : Nat) (F : Nat → Int) (w : World) (k1 : n ≤ c ∧ c ≤ maxLen) (hF : Keys w w.heap.size A n F ∧ ∀ i, i < n → Wf (F i)) :
    Calls Try.prog 4 #[.slice A n c] w (AwakeE w) := by
  have hnm : n ≤ 9223372036854775807 := by have := k1.1; have := k1.2; unfold maxLen at this; omega
  have hmm := @run_makeMap Try.prog
  replace hF := hF.1
  clear k1
  go_enter Try.func4, Try.ntmps4
  go_wp2_with fail
  refine (awake_any _).mono ?_
  rintro e w1 ⟨rfl, hb1⟩
  go_wp2_with fail
  refine (lnew w1 w.heap.size hb1.size).mono ?_
  rintro e w2 ⟨rfl, h2, hb2⟩
  have HT0 := Lib.hid (one_new hb1 h2 hb2)
  generalize w1.heap.size = Q at *
  clear h2 hb1 hb2
  go_upto_region 4 with fail
  go_cut [4] (fun v wx => ∃ N : Nat, v = .int .i64 N ∧ N ≤ n ∧ N ≤ 200 ∧ wx = w2)
  case first =>
    by_cases hn : n ≤ 200
    · go_wp2_with fail
      go_meet
      case rel => exact ⟨n, by simp, Nat.le_refl _, hn, rfl⟩
    · have hn2 : ¬ (n : Int) ≤ 200 := by omega
      go_wp2_with fail
      go_meet
      case rel => exact ⟨200, by simp, by omega, Nat.le_refl _, rfl⟩
  case rest =>
    obtain ⟨N, rfl, hNn, hN2, rfl⟩ := hcut
    go_wp2_with fail
    go_loopg [5] N (fun g s wr => ∃ (k : Nat) (L : List KN), g + k = N ∧ k ≤ N ∧ s = .int .i64 k ∧ Hid (L.Perm (prs F k)) ∧ Hid (L.Pairwise Lex) ∧ Hid (One w wr Q (fun _ => False) L k))
    case atStart => exact ⟨0, [], by omega, by omega, rfl, Lib.hid (List.Perm.refl _), Lib.hid List.Pairwise.nil, HT0⟩
    case round =>
      clear HT0
      obtain ⟨k, L, hgk, hk, rfl, HL, HX, HT⟩ := hrel
      by_cases hlt : k < N
      · obtain ⟨b, off, rfl, hbl, f0⟩ := (hF.below HT.out.bel) k (by omega)
        have HPL := Lib.hid (prs_push HL.out)
        have HPX := Lib.hid (lex_push HX.out HL.out)
        obtain ⟨a, ha⟩ : ∃ a, F k = a := ⟨_, rfl⟩
        rw [ha] at f0 HPL HPX
        have HP := Lib.hid (one_push HT.out (by omega) a k)
        clear ha
        go_wp2_with fail
        refine HP.out.mono ?_
        rintro e w6 ⟨rfl, ht6, -⟩
        have HT6 := Lib.hid ht6
        clear ht6 HP
        go_wp2_with fail
        go_roundg (gk - 1)
        case measure => omega
        case rel => exact ⟨k + 1, _, by omega, by omega, by go_num, HPL, HPX, HT6⟩
      · have hkN : k = N := by omega
        have HINV := Lib.hid (show Inv2 F N 0 0 (-1) L (fun _ => false) from ⟨by have := HL.out.length_eq; rw [hkN] at this; simp [prs] at this; omega, HX.out, fun y hy => by
          obtain ⟨j, hj, e⟩ := prs_mem (HL.out.mem_iff.1 hy)
          exact ⟨j, by omega, e⟩, fun _ _ => rfl, fun h => absurd h (by omega)⟩)
        have HM0 := Lib.hid (MapB.made wr 3)
        have HT1 := Lib.hid ((HT.out.box (.map #[] 0)).weak (T' := 200) (X' := fun b => b = wr.heap.size) (by omega) (fun b h => .inr h))
        have hloM := HT.out.bel.size
        generalize hMM : wr.heap.size = M at *
        have hge : ¬ ((k : Int) < (N : Int)) := by omega
        clear hlt hkN HL HX HT
        go_wp2_with fail
        clear hMM
        go_loopg [7, 8, 9] N (fun g s7 s8 s9 wr => ∃ (k : Nat) (L : List KN) (f : Int → Bool) (was last : Int), g + k = N ∧ k ≤ N ∧ s7 = .int .i64 was ∧ s8 = .int .i64 last ∧ s9 = .int .i64 k ∧ Hid (Inv2 F N k was last L f) ∧ Hid (MapB wr 3 M k f) ∧ Hid (One w wr Q (fun b => b = M) L 200))
        case atStart => exact ⟨0, L, _, 0, -1, by omega, by omega, rfl, rfl, rfl, HINV, HM0, HT1⟩
        case round =>
          clear HINV HM0 HT1
          obtain ⟨k, L, f, was, last, hgk, hk, rfl, rfl, rfl, HI, HM, HT⟩ := hrel
          have HP := Lib.hid (one_pop HT.out (by omega))
          by_cases hlt : k < N
          · cases L with
            | nil => exact absurd HI.out.len (by simp; omega)
            | cons a l =>
              obtain ⟨j, hj, haj⟩ := HI.out.src a (by simp)
              subst haj
              have HI2 := Lib.hid HI.out.step
              have hnew : f (j : Int) = false := HI.out.new (F j, (j : Int)) (by simp)
              have HLOW := Lib.hid (show 0 < k → Lex (was, last) (F j, (j : Int)) from fun h => HI.out.low h _ (by simp))
              obtain ⟨b, off, rfl, hbl, fj⟩ := hF j (by omega)
              have HFJ := Lib.hid fj
              dsimp only at HI2
              obtain ⟨x, hx⟩ : ∃ x, F j = x := ⟨_, rfl⟩
              rw [hx] at HI2 HLOW HFJ
              rw [show popV ((F j, (j : Int)) :: l) = .tuple #[.int .i64 (F j), .int .i64 j, .bool true] from rfl, show ((F j, (j : Int)) :: l).tail = l from rfl, hx] at HP
              have HNEW := Lib.hid hnew
              clear fj HI hx hnew
              go_wp2_with fail
              refine HP.out.mono ?_
              rintro e w5 ⟨rfl, ht5, hs5⟩
              have hm5 := HM.out.of_block (hs5 M rfl)
              have hwf : Wf (j : Int) := wf_small (by omega) (by omega)
              have hlk := hm5.look Try.underlying40 Try.underlying3 hwf
              rw [HNEW.out] at hlk
              obtain ⟨w6, hput, hm6, hg6⟩ := hm5.put Try.underlying40 Try.underlying3 (by omega) hwf true
              have HM6 := Lib.hid hm6
              have HT6 := Lib.hid (ht5.grown hg6 rfl hloM)
              have fx := (ht5.bel.cell (p := ⟨b, off + j, none⟩) hbl).trans HFJ.out
              have hj0 : ¬ ((j : Int) < 0) := by omega
              have hjN : ¬ ((N : Int) ≤ (j : Int)) := by omega
              clear hm5 hwf hm6 hg6 ht5 hs5 HP
              have hcases : k = 0 ∨ (0 < k ∧ was < x) ∨ (0 < k ∧ was = x ∧ last < (j : Int)) := by
                by_cases h0 : k = 0
                · exact .inl h0
                · have := HLOW.out (by omega)
                  unfold Lex at this
                  simp only at this
                  omega
              rcases hcases with h0 | ⟨h0, hwx⟩ | ⟨h0, hwx, hlj⟩
              · subst h0
                go_wp2_with fail
                go_roundg (gk - 1)
                case measure => omega
                case rel => exact ⟨1, l, _, x, j, by omega, by omega, rfl, rfl, by go_num, HI2, HM6, HT6⟩
              · have x1 : ¬ (x < was) := by omega
                have x2 : (x == was) = false := by rw [beq_eq_false_iff_ne]; omega
                have x3 : (0 : Int) < (k : Int) := by omega
                go_wp2_with fail
                go_roundg (gk - 1)
                case measure => omega
                case rel => exact ⟨k + 1, l, _, x, j, by omega, by omega, rfl, rfl, by go_num, HI2, HM6, HT6⟩
              · subst hwx
                have x1 : ¬ ((j : Int) < last) := by omega
                have x3 : (0 : Int) < (k : Int) := by omega
                go_wp2_with fail
                go_roundg (gk - 1)
                case measure => omega
                case rel => exact ⟨k + 1, l, _, was, j, by omega, by omega, rfl, rfl, by go_num, HI2, HM6, HT6⟩
          · have hL : L = [] := List.eq_nil_of_length_eq_zero (by have := HI.out.len; omega)
            subst hL
            rw [show popV [] = .tuple #[.int .i64 0, .int .i64 0, .bool false] from rfl, show ([] : List KN).tail = [] from rfl] at HP
            have hge : ¬ ((k : Int) < (N : Int)) := by omega
            clear hlt HI HM
            go_wp2_with fail
            refine HP.out.mono ?_
            rintro e w5 ⟨rfl, ht5, -⟩
            have HLE := Lib.hid (one_len ht5)
            have HT5 := Lib.hid ht5
            clear ht5 HP
            go_wp2_with fail
            refine HLE.out.mono ?_
            rintro e w6 ⟨rfl, rfl⟩
            go_wp2_with fail
            go_ret
            exact ⟨rfl, HT5.out.bel⟩

set_option maxRecDepth 100000 in
theorem lifted (os : Os) (started : os.Started) (H : Type) (enc : TypeId × Value → H) :
    ReturnsInHanded {} Try.checked os 4 .any (Rows.queueRisesSpec.pre6 enc Try.prog Try.f4 Rows.queueRisesRow.domain false) (Rows.queueRisesSpec.post enc Try.prog Try.f4 false true false false) := by
  refine returnsInHanded_of_change (C := Try.checked) own started (by kernel_rfl) Try.func4
    (ChangeSpec.witness6 (enc := enc) (C := Try.checked) false ⟨#[], #[.slice none 0 0], []⟩ 8 (by kernel_rfl) (by kernel_rfl) (by kernel_rfl) (by kernel_rfl)) ?_
  intro W base args ds gs before hval0 hW hcnd _
  have hval : ∀ (j : Nat) t v, Try.f4.params[j]? = some t → args[j]? = some v → Value.okWide Try.prog W .any base t v := hval0
  have hW' := hW
  obtain ⟨p, q, hA0, hV, rfl, hfz, hnd⟩ := hW
  have hA : DataW.TrodAll enc Try.prog W 0 (fun _ => true) true Try.f4.params.toList args.toList ds p := hA0
  rw [Try.params4] at hA hval
  obtain ⟨v0, vs0, d0, ds0, p0, q0, hargs, rfl, rfl, h0, r0⟩ := trodAll_cons hA
  obtain ⟨rfl, rfl, rfl⟩ := trodAll_nil r0
  obtain rfl : args = #[v0] := by cases args; simp_all
  obtain ⟨rfl, rfl⟩ := trodVars_none hV
  have hlt := fun x hx => hW'.lt x hx
  have t0 := h0
  obtain ⟨A0, n0, c0, x0, rfl, e0, s0⟩ := open_keys2 (hval 0 39 v0 rfl rfl) h0
  clear hA0 hval0
  refine (walk A0 n0 c0 x0 W e0 s0).mono fun e W' ⟨he, hg⟩ => ?_
  subst he
  exact ⟨_, rfl, law_post (pv := []) hW' (fun _ _ _ => (trodAll_cons_mk (shut_bool Try.underlying4 _) trodAll_mk0)) (fun sp hsp => (trodAll_cons_mk (arg_stays (by decide) t0 hg (by simp +contextual) hlt hsp laid) trodAll_mk0)) (fun _ _ => rfl) (by simp)
    hg (ok_one (by kernel_rfl) rfl (okWide_bool_mk Try.underlying4 _))⟩

theorem over : Rows.queueRisesRow.holds Try.pinned (OpenSpec.ofChange Rows.queueRisesSpec) :=
  OpenClaim.holds_of_wide 4 Try.f4 rfl rfl rfl rfl rfl rfl rfl ⟨rfl, rfl, rfl, rfl, rfl⟩ rfl rfl rfl rfl rfl (by kernel_rfl) Try.func4 (by kernel_rfl)
    (of_decide_eq_true (by kernel_rfl)) (by unfold Func.isWrapper; first | (rw [if_pos (by decide +kernel)]; kernel_rfl) | (rw [if_neg (by decide +kernel)]; exact ⟨rfl, rfl⟩))
    (fun os started H enc _ => lifted os started H enc)

/-- The statement. -/
theorem proved : Rows.QueueRisesSaid :=
  over
end Go.Proofs.Ytadkhnenklkbmaa.queueRises
