/- For every list of acts the law DescLowest returns true, and what is handed in reads as it did; there are no conditions. -/
import Derived.Test.YtfbdhpbnmjacmaaDq
import Derived.Deep.RegionWith
import Derived.Deep.QuietTactic
import Derived.BigQuiet
import Derived.ProofKit
import Derived.OpenShut
import Derived.ShutString
namespace Go.Proofs.Ytfbdhpbnmjacmaa.descLowest
open Go.ChangeShapes Go.WideShapes Go.ChangeAt Go.RowKit
open Go.ChangeMaps (open_string shut_string)
open Go.Proofs.Ytfbdhpbnmjacmaa.ds
set_option linter.unusedVariables false

theorem own : ownKnob Try.prog.godebug = none := by kernel_rfl
theorem laid : laidOutB Try.prog = true := by kernel_rfl

theorem own_ints {w : World} {lo n c : Nat} {A : Option Addr} {L : List Nat} (h : w.ownsRow lo 3 1 (.slice A n c) n (L.map Iv)) : ∀ i k : Nat, L[i]? = some k → ∃ g, A = some ⟨g, 0, none⟩ ∧ lo ≤ g ∧ g < w.heap.size ∧ w.cell? ⟨g, i, none⟩ = some (.int .i64 (k : Int)) := by
  intro i k hk
  rcases h.2 with ⟨h1, h2⟩ | ⟨g, cap, cur, h1, h3, h4, _⟩
  · have := h.1
    have hl := (List.getElem?_eq_some_iff.1 hk).1
    simp at this
    omega
  · injection h1 with h1
    subst h1
    refine ⟨g, rfl, h3, ?_, ?_⟩
    · rcases Nat.lt_or_ge g w.heap.size with h5 | h5
      · exact h5
      · rw [Array.getElem?_eq_none h5] at h4; cases h4
    · have := World.ownsRow.cells h (g := g) rfl i (.int .i64 (k : Int)) (by rw [List.getElem?_map, hk]; rfl)
      rw [Addr.add_mid, Nat.zero_add] at this
      exact this
theorem all_nodup (T : Tb) (n : Nat) : (allT T n).Pairwise (· ≠ ·) := List.Pairwise.filter _ (List.pairwise_lt_range.imp fun h => Nat.ne_of_lt h)
theorem not_ahead {L : List Nat} (h : L.Pairwise (· ≠ ·)) {i k : Nat} (hk : L[i]? = some k) (v : Value) : inL (L.take i) v (k : Int) = none := by
  unfold inL
  rw [if_neg]
  rintro ⟨j, hj, e⟩
  have e : k = j := by omega
  subst e
  obtain ⟨m, hm, hmk⟩ := List.mem_iff_getElem.1 hj
  rw [List.length_take] at hm
  rw [List.getElem_take] at hmk
  obtain ⟨hi, hik⟩ := List.getElem?_eq_some_iff.1 hk
  have := (List.pairwise_iff_getElem.1 h) m i (by omega) hi (by omega)
  exact this (by rw [hmk, hik])
theorem take_one {L : List Nat} {i k : Nat} (hk : L[i]? = some k) : L.take (i + 1) = L.take i ++ [k] := by
  obtain ⟨hi, hik⟩ := List.getElem?_eq_some_iff.1 hk
  rw [List.take_succ_eq_append_getElem hi, hik]
set_option maxHeartbeats 8000000 in
set_option maxRecDepth 100000 in
theorem walk (A : Option Addr) (n c : Nat) (F : Nat → Act7) (w : World) (k1 : n ≤ c ∧ c ≤ maxLen) (hF : Acts w w.heap.size A n F ∧ Ads w n F) :
    Calls Try.prog 5 #[.slice A n c] w (AwakeE w) := by
  have hnm : n ≤ 9223372036854775807 := by have := k1.1; have := k1.2; unfold maxLen at this; omega
  have hmm := @run_makeMap Try.prog
  have HA := Lib.hid hF.1
  have HD := Lib.hid hF.2
  clear k1 hF
  go_enter Try.func5, Try.ntmps5
  go_wp2_with fail
  refine (awake_any _).mono ?_
  rintro e w1 ⟨rfl, hb1⟩
  have HN := Lib.hid (y_new hb1)
  clear hb1
  go_wp2_with fail
  refine HN.out.mono ?_
  rintro e w2 ⟨rfl, h2, -⟩
  generalize w1.heap.size = P at *
  have H2 := Lib.hid h2.forget
  clear h2 HN
  go_wp2_with fail
  go_loopg [4] 120 (fun g s wr => ∃ (k : Nat) (T : Tb), g + k = 120 ∧ k ≤ n ∧ s = .int .i64 k ∧ Hid (TY w wr P No T))
  case atStart => exact ⟨0, em, by omega, by omega, rfl, H2⟩
  case round =>
    clear H2
    obtain ⟨k, T, hgk, hk, rfl, HT⟩ := hrel
    by_cases hgo : k < n ∧ k < 120
    · obtain ⟨hkn, hk2⟩ := hgo
      obtain ⟨b, off, rfl, hbl, f0, f1, f2, f3, f4, f5, f6, f7⟩ := (HA.out.below HT.out.bel) k hkn
      have HP := Lib.hid (play_any (k := (F k).kind) (fd := (F k).fd) HT.out ((HD.out.below HT.out.bel) k hkn))
      generalize F k = x at *
      obtain ⟨xk, xf, xA, xn, xc, d0, d1, d2, d3, xs, d5⟩ := x
      unfold AL at HP
      dsimp only at f0 f1 f2 f3 f4 f5 f6 f7 HP
      generalize actT T xn xk xf _ = T' at HP
      clear HT
      go_wp2_with fail
      refine HP.out.mono ?_
      rintro e w3 ⟨⟨v, rfl⟩, h3, -⟩
      have HT3 := Lib.hid h3
      clear h3 HP
      go_wp2_with fail
      go_roundg (gk - 1)
      case measure => omega
      case rel => exact ⟨k + 1, T', by omega, by omega, by go_num, HT3⟩
    · have hsplit : (k < n ∧ k = 120) ∨ ¬ k < n := by omega
      clear hgo HA HD
      rcases hsplit with ⟨hkn, rfl⟩ | hkn
      all_goals
        obtain ⟨M, hM⟩ : ∃ M, wr.heap.size = M := ⟨_, rfl⟩
        have HM0 := Lib.hid (MapV.made wr)
        have HTM := Lib.hid ((HT.out.over (below_alloc wr (.map #[] 0))).weaken (Y := fun b => b = M) (fun b hb => .inr (by subst hb; rw [World.size_alloc]; omega)))
        have HAL := Lib.hid (y_all HTM.out)
        have hloM : w.heap.size ≤ M := by rw [← hM]; exact HT.out.bel.size
        rw [hM] at HM0
        have HLL := Lib.hid (all_len T 32)
        have HND := Lib.hid (all_nodup T 32)
        have HMM := Lib.hid (fun q => all_mem (T := T) (n := 32) (k := q))
        have hlen32 := cnt_le T 32
        rw [← HLL.out] at hlen32
        generalize allT T 32 = L at *
        clear HT
        go_wp2_with fail
        clear hM
        refine HAL.out.mono ?_
        rintro e w4 ⟨v4, rfl, hown, hb4⟩
        obtain ⟨A6, c6, rfl⟩ := own_slice hown
        have HCL := Lib.hid (own_ints hown)
        have HM4 := Lib.hid (HM0.out.of_block (hb4.block M HM0.out.lt))
        have HT4 := Lib.hid (((HTM.out.over hb4).weaken (Y := fun b => b = M) (fun b hb => .inl hb)))
        have hMl := HM0.out.lt
        have HMA := Lib.hid (show ∀ i k : Nat, L[i]? = some k → ∃ g, A6 = some ⟨g, 0, none⟩ ∧ g ≠ M ∧ g < w4.heap.size ∧ w4.cell? ⟨g, i, none⟩ = some (.int .i64 (k : Int)) from fun i k hk => by
          obtain ⟨g, h1, h2, h3, h4⟩ := HCL.out i k hk
          exact ⟨g, h1, by omega, h3, h4⟩)
        obtain ⟨N, hN⟩ : ∃ N, L.length = N := ⟨_, rfl⟩
        have HN := Lib.hid hN
        rw [hN] at hlen32 ⊢
        clear hown hb4 HM0 HTM HAL HCL hN hMl
        go_wp2_with fail
        go_loopg [34] N (fun g s wr => ∃ i : Nat, g + i = N ∧ i ≤ N ∧ s = .int .i64 i ∧ Hid (MapV wr M i (inL (L.take i) (.bool true))) ∧ Hid (TY w wr P (fun b => b = M) T) ∧ Hid (∀ i k : Nat, L[i]? = some k → ∃ g, A6 = some ⟨g, 0, none⟩ ∧ g ≠ M ∧ g < wr.heap.size ∧ wr.cell? ⟨g, i, none⟩ = some (.int .i64 (k : Int))))
        case atStart => exact ⟨0, by omega, by omega, rfl, (by rw [List.take_zero, show inL [] (.bool true) = fun _ => none from by funext a; simp [inL]]; exact HM4), HT4, HMA⟩
        case round =>
          clear HM4 HT4 HMA
          obtain ⟨i, hgi, hi, rfl, HM, HT, HL⟩ := hrel
          by_cases hlt : i < N
          · obtain ⟨kk, hkk⟩ : ∃ kk, L[i]? = some kk := ⟨_, List.getElem?_eq_getElem (by rw [HN.out]; exact hlt)⟩
            obtain ⟨g6, rfl, hg6, hg7, cc⟩ := HL.out i kk hkk
            have hk32 : kk < 32 := (HMM.out kk |>.1 (List.mem_of_getElem? hkk)).1
            obtain ⟨w5, hput, hm5, hg5⟩ := HM.out.put Try.underlying50 (by omega) (wf_small (a := (kk : Int)) (by omega) (by omega)) (not_ahead HND.out hkk _) (.bool true)
            have ho5 := only_grown hg5
            rw [inL_snoc, ← take_one hkk] at hm5
            have HM5 := Lib.hid hm5
            have HT5 := Lib.hid (HT.out.turn ho5 (fun b hb => ⟨hb, by subst hb; exact hloM⟩))
            have HL5 := Lib.hid (show ∀ i k : Nat, L[i]? = some k → ∃ g, (some ⟨g6, 0, none⟩ : Option Addr) = some ⟨g, 0, none⟩ ∧ g ≠ M ∧ g < w5.heap.size ∧ w5.cell? ⟨g, i, none⟩ = some (.int .i64 (k : Int)) from fun i k hk => by
              obtain ⟨g, h1, h2, h3, h4⟩ := HL.out i k hk
              exact ⟨g, h1, h2, Nat.lt_of_lt_of_le h3 ho5.size, (World.cell?_of_block (a := ⟨g, i, none⟩) (ho5.block g h3 h2)).trans h4⟩)
            clear hm5 hg5 ho5 HM HT HL
            go_wp2_with fail
            go_roundg (gk - 1)
            case measure => omega
            case rel => exact ⟨i + 1, by omega, by omega, by go_num, HM5, HT5, HL5⟩
          · have hiN : i = N := by omega
            have HMV := Lib.hid (show MapV wr M N (inL L (.bool true)) by
              have := HM.out
              rw [hiN, List.take_of_length_le (by rw [HN.out]; exact Nat.le_refl _)] at this
              exact this)
            have hge : ¬ ((i : Int) < (N : Int)) := by omega
            have HT6 := HT
            clear hlt hiN HM HT HL
            go_wp2_with fail
            go_loopg [8] 33 (fun g s wr => ∃ q : Nat, g + q = 33 ∧ q ≤ 32 ∧ s = .int .i64 q ∧ Hid (∀ j, j < q → T j ≠ none) ∧ Hid (MapV wr M N (inL L (.bool true))) ∧ Hid (TY w wr P (fun b => b = M) T))
            case atStart => exact ⟨0, by omega, by omega, rfl, Lib.hid (by omega), HMV, HT6⟩
            case round =>
              clear HMV HT6
              obtain ⟨q, hgq, hq, rfl, HNQ, HMV, HT⟩ := hrel
              have hlk := HMV.out.look Try.underlying50 (z := .bool false) (by kernel_rfl) (wf_small (a := (q : Int)) (by omega) (by omega))
              by_cases hin : q < 32 ∧ T q ≠ none
              · have hv : (inL L (.bool true) (q : Int)).getD (.bool false) = .bool true := by
                  unfold inL
                  rw [if_pos ⟨q, (HMM.out q).2 hin, rfl⟩]; rfl
                rw [hv] at hlk
                have HNQ2 := Lib.hid (show ∀ j, j < q + 1 → T j ≠ none from fun j hj => by
                  rcases Nat.lt_succ_iff_lt_or_eq.1 hj with h1 | h1
                  · exact HNQ.out j h1
                  · rw [h1]; exact hin.2)
                obtain ⟨hq2, -⟩ := hin
                clear hv
                go_wp2_with fail
                go_roundg (gk - 1)
                case measure => omega
                case rel => exact ⟨q + 1, by omega, by omega, by go_num, HNQ2, HMV, HT⟩
              · have hv : (inL L (.bool true) (q : Int)).getD (.bool false) = .bool false := by
                  unfold inL
                  rw [if_neg]; rfl
                  rintro ⟨j, h1, h2⟩
                  have : q = j := by omega
                  subst this
                  exact hin ((HMM.out q).1 h1)
                rw [hv] at hlk
                have HO := Lib.hid (y_open0 HT.out 3)
                by_cases hq32 : q = 32
                · have hl := low_no (T := T) (by rw [← hq32]; exact HNQ.out)
                  have hqi : (32 : Int) ≤ (q : Int) := by omega
                  rw [show lowV T = (0, 24) by unfold lowV; rw [hl]] at HO
                  have hN : N = 32 := by rw [← HN.out, HLL.out]; exact full_cnt (by rw [← hq32]; exact HNQ.out)
                  subst hN
                  clear hv hin hl hq32
                  go_wp2_with fail
                  refine HO.out.mono ?_
                  rintro e w8 ⟨rfl, h8, hs8⟩
                  have hln := (HMV.out.of_block (hs8 M rfl)).len Try.underlying50
                  rw [show (((32 : Nat) : Int)) = 32 from rfl] at hln
                  have HB8 := Lib.hid h8.bel
                  clear h8 hs8 hlk
                  go_wp2_with fail
                  go_ret
                  exact ⟨rfl, HB8.out⟩
                · have hl := low_of (T := T) (k := q) (by omega) (Classical.byContradiction fun e => hin ⟨by omega, e⟩) HNQ.out
                  rw [show lowV T = ((q : Int), 0) by unfold lowV; rw [hl]] at HO
                  have hqi : ¬ (32 : Int) ≤ (q : Int) := by omega
                  clear hv hin hl hq32
                  go_wp2_with fail
                  refine HO.out.mono ?_
                  rintro e w8 ⟨rfl, h8, hs8⟩
                  have HB8 := Lib.hid h8.bel
                  clear h8 hs8 hlk
                  go_wp2_with fail
                  go_ret
                  exact ⟨rfl, HB8.out⟩

set_option maxRecDepth 100000 in
theorem lifted (os : Os) (started : os.Started) (H : Type) (enc : TypeId × Value → H) :
    ReturnsInHanded {} Try.checked os 5 .any (Rows.descLowestSpec.pre6 enc Try.prog Try.f5 Rows.descLowestRow.domain false) (Rows.descLowestSpec.post enc Try.prog Try.f5 false true false false) := by
  refine returnsInHanded_of_change (C := Try.checked) own started (by kernel_rfl) Try.func5
    (ChangeSpec.witness6 (enc := enc) (C := Try.checked) false ⟨#[], #[.slice none 0 0], []⟩ 8 (by kernel_rfl) (by kernel_rfl) (by kernel_rfl) (by kernel_rfl)) ?_
  intro W base args ds gs before hval0 hW hcnd _
  have hval : ∀ (j : Nat) t v, Try.f5.params[j]? = some t → args[j]? = some v → Value.okWide Try.prog W .any base t v := hval0
  have hW' := hW
  obtain ⟨p, q, hA0, hV, rfl, hfz, hnd⟩ := hW
  have hA : DataW.TrodAll enc Try.prog W 0 (fun _ => true) true Try.f5.params.toList args.toList ds p := hA0
  rw [Try.params5] at hA hval
  obtain ⟨v0, vs0, d0, ds0, p0, q0, hargs, rfl, rfl, h0, r0⟩ := trodAll_cons hA
  obtain ⟨rfl, rfl, rfl⟩ := trodAll_nil r0
  obtain rfl : args = #[v0] := by cases args; simp_all
  obtain ⟨rfl, rfl⟩ := trodVars_none hV
  have hlt := fun x hx => hW'.lt x hx
  have t0 := h0
  obtain ⟨A0, n0, c0, x0, rfl, e0, s0⟩ := open_acts (hval 0 22 v0 rfl rfl) h0
  clear hA0 hval0
  refine (walk A0 n0 c0 x0 W e0 s0).mono fun e W' ⟨he, hg⟩ => ?_
  subst he
  exact ⟨_, rfl, law_post (pv := []) hW' (fun _ _ _ => (trodAll_cons_mk (shut_bool Try.underlying4 _) trodAll_mk0)) (fun sp hsp => (trodAll_cons_mk (arg_stays (by decide) t0 hg (by simp +contextual) hlt hsp laid) trodAll_mk0)) (fun _ _ => rfl) (by simp)
    hg (ok_one (by kernel_rfl) rfl (okWide_bool_mk Try.underlying4 _))⟩

theorem over : Rows.descLowestRow.holds Try.pinned (OpenSpec.ofChange Rows.descLowestSpec) :=
  OpenClaim.holds_of_wide 5 Try.f5 rfl rfl rfl rfl rfl rfl rfl ⟨rfl, rfl, rfl, rfl, rfl⟩ rfl rfl rfl rfl rfl (by kernel_rfl) Try.func5 (by kernel_rfl)
    (of_decide_eq_true (by kernel_rfl)) (by unfold Func.isWrapper; first | (rw [if_pos (by decide +kernel)]; kernel_rfl) | (rw [if_neg (by decide +kernel)]; exact ⟨rfl, rfl⟩))
    (fun os started H enc _ => lifted os started H enc)

/-- The statement. -/
theorem proved : Rows.DescLowestSaid :=
  over
end Go.Proofs.Ytfbdhpbnmjacmaa.descLowest
