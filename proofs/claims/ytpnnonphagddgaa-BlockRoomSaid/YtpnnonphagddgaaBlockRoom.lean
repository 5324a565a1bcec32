/- For every room and every list of acts the law BlockRoom returns true, and what is handed in reads as it did; there are no conditions. -/
import Derived.Test.YtpnnonphagddgaaFour2
import Derived.Deep.RegionWith
import Derived.ProofKit
import Derived.OpenShut
namespace Go.Proofs.Ytpnnonphagddgaa.blockRoom
open Go.ChangeShapes Go.WideShapes Go.ChangeAt Go.RowKit
set_option linter.unusedVariables false

theorem own : ownKnob Try.prog.godebug = none := by kernel_rfl
theorem laid : laidOutB Try.prog = true := by kernel_rfl

theorem tot_bound (b : Nat → AB) : ∀ K, tot K b ≤ 4096 * K
  | 0 => Nat.le_refl _
  | K + 1 => by have := tot_bound b K; have := n_le (b K); show tot K b + (b K).n ≤ _; omega

set_option maxHeartbeats 8000000 in
set_option maxRecDepth 100000 in
theorem walk (room : Int) (A : Option Addr) (n c : Nat) (F : Nat → Act5) (w : World) (k1 : n ≤ c ∧ c ≤ maxLen) (hF : Acts w w.heap.size A n F) :
    Calls Try.prog 4 #[.int .i64 room, .slice A n c] w (AwakeE w) := by
  have hnm : (n : Int) ≤ 9223372036854775807 := by have := k1.1; have := k1.2; unfold maxLen at this; omega
  clear k1
  have HF0 := Lib.hid hF
  clear hF
  go_enter Try.func4, Try.ntmps4
  go_wp2_with fail
  refine (awake_any _).mono ?_
  rintro e w1 ⟨rfl, hb1⟩
  have HB1 := Lib.hid hb1
  clear hb1
  by_cases hr : 0 ≤ room ∧ room ≤ 65536
  · obtain ⟨R, hR⟩ : ∃ R : Nat, room = (R : Int) := ⟨room.toNat, by omega⟩
    have HRM := Lib.hid (show R ≤ 65536 by omega)
    subst hR
    clear hr
    go_wp2_with fail
    refine (new_yes R w1 HRM.out).mono ?_
    rintro e w2 ⟨rfl, hw2⟩
    have HS2 := Lib.hid (one_new HRM.out hw2)
    have HB2 := Lib.hid (show Below w.heap.size w w2 by rw [hw2]; exact HB1.out.alloc HB1.out.size _)
    have HZ := Lib.hid (show w2.heap.size = w1.heap.size + 1 by rw [hw2]; simp)
    clear hw2
    have HR0 := Lib.hid (sys_zero HS2.out (fun _ => 0) (fun _ => 0) (fun _ => AB.empty))
    clear HS2
    go_wp2_with fail
    refine (sys_body HR0.out).mono ?_
    rintro e w3 ⟨rfl, h0, hb0⟩
    have HR1 := Lib.hid h0
    have Hw3 := Lib.hid (below_step HB2.out (hb0.mono HB2.out.size))
    clear h0 hb0 HR0
    go_wp2_with fail
    refine (sys_body HR1.out).mono ?_
    rintro e w4 ⟨rfl, h1, hb1⟩
    have HR2 := Lib.hid h1
    have Hw4 := Lib.hid (below_step Hw3.out (hb1.mono Hw3.out.size))
    clear h1 hb1 HR1
    go_wp2_with fail
    refine (sys_body HR2.out).mono ?_
    rintro e w5 ⟨rfl, h2, hb2⟩
    have HR3 := Lib.hid h2
    have Hw5 := Lib.hid (below_step Hw4.out (hb2.mono Hw4.out.size))
    clear h2 hb2 HR2
    go_wp2_with fail
    refine (sys_body HR3.out).mono ?_
    rintro e w6 ⟨rfl, h3, hb3⟩
    have HR4 := Lib.hid h3
    have Hw6 := Lib.hid (below_step Hw5.out (hb3.mono Hw5.out.size))
    clear h3 hb3 HR3
    have HT3 := Lib.hid (four_made (show Sys w6 w1.heap.size R 4 (B4 (w2.heap.size + 1) (w3.heap.size + 1) (w4.heap.size + 1) (w5.heap.size + 1)) (B4 w2.heap.size w3.heap.size w4.heap.size w5.heap.size) E4 from HR4.out) Hw6.out HB1.out.size
      ⟨by have := HB2.out.size; omega, by have := Hw3.out.size; omega, by have := Hw4.out.size; omega, by have := Hw5.out.size; omega⟩ ⟨HB2.out.size, Hw3.out.size, Hw4.out.size, Hw5.out.size⟩)
    go_wp2_with fail
    generalize (w6.alloc (.cells #[Pq (w2.heap.size + 1), Pq (w3.heap.size + 1), Pq (w4.heap.size + 1), Pq (w5.heap.size + 1)] 29)) = w7 at *
    clear HR4 Hw3 Hw4 Hw5
    generalize B4 (w2.heap.size + 1) (w3.heap.size + 1) (w4.heap.size + 1) (w5.heap.size + 1) = B at *
    generalize B4 w2.heap.size w3.heap.size w4.heap.size w5.heap.size = M at *
    generalize w6.heap.size = g at *
    generalize w1.heap.size = S at *
    clear HB1 HB2 HZ Hw6
    go_loopg [7] 60 (fun gg s wr => ∃ (k : Nat) (b : Nat → AB), gg + k = 60 ∧ k ≤ n ∧ s = .int .i64 (k : Int) ∧ Hid (Four w wr g S R B M b))
    case atStart => exact ⟨0, E4, by omega, by omega, rfl, HT3⟩
    case round =>
      clear HT3
      obtain ⟨k, b, hgk, hk, rfl, HT⟩ := hrel
      have hk60 : k ≤ 60 := by omega
      by_cases hgo : k < n ∧ k < 60
      · obtain ⟨hkn, hk2⟩ := hgo
        obtain ⟨ab, ao, rfl, hab, f0, f1, f2, f3, f4, hsrc⟩ := (HF0.out.below HT.out.bel) k hkn
        generalize F k = x at *
        have HSRC := Lib.hid hsrc
        have HW := Lib.hid HT.out.bel.size
        have habr : ab < wr.heap.size := Nat.lt_of_lt_of_le hab HT.out.bel.size
        have HL := Lib.hid (large_any x wr (Nat.le_trans hsrc.1.1 hsrc.1.2))
        clear hsrc hab
        cases hlb : largeB x
        · rw [hlb] at HL
          go_wp2_with fail
          refine HL.out.mono ?_
          rintro e w4 ⟨rfl, hb4⟩
          have g0 : w4.drew.cell? ⟨ab, ao + k * 5, none⟩ = some (.int .i64 x.kind) := (hb4.cell (p := ⟨ab, ao + k * 5, none⟩) habr).trans f0
          have g1 : w4.drew.cell? ⟨ab, ao + k * 5 + 1, none⟩ = some (.int .i64 x.who) := (hb4.cell (p := ⟨ab, ao + k * 5 + 1, none⟩) habr).trans f1
          have g2 : w4.drew.cell? ⟨ab, ao + k * 5 + 2, none⟩ = some (.int .i64 x.off) := (hb4.cell (p := ⟨ab, ao + k * 5 + 2, none⟩) habr).trans f2
          have g3 : w4.drew.cell? ⟨ab, ao + k * 5 + 3, none⟩ = some (.int .i64 x.num) := (hb4.cell (p := ⟨ab, ao + k * 5 + 3, none⟩) habr).trans f3
          have g4 : w4.drew.cell? ⟨ab, ao + k * 5 + 4, none⟩ = some (.slice x.A x.len x.cap) := (hb4.cell (p := ⟨ab, ao + k * 5 + 4, none⟩) habr).trans f4
          obtain ⟨kk, hkk, hwh⟩ := which x.who
          have HT4 := Lib.hid (HT.out.below hb4).drew
          have hc : w4.drew.cell? ⟨g, kk, none⟩ = some (Pq (B kk)) := HT4.out.arr kk hkk
          have hkki : (kk : Int) < 4 := by omega
          have HP := Lib.hid (four_play HT4.out hkk x (HSRC.out.below (Below.drew (hb4.mono HW.out))))
          have hab4 : ab < w4.heap.size := Nat.lt_of_lt_of_le habr hb4.size
          clear hb4 f0 f1 f2 f3 f4 habr HL hlb HT
          go_upto_region 12 with fail
          go_still_tail 13, (by kernel_rfl)
          change wpList _ _ _ _ _ w4.drew
          generalize w4.drew = w4d at *
          go_wp2_with fail
          refine HP.out.mono ?_
          rintro e w5 ⟨rfl, b', h5⟩
          have HT5 := Lib.hid h5
          clear h5 HP g0 g1 g2 g3 g4 hc HT4 hwh hab4
          go_wp2_with fail
          go_loopg [8, 61] 4 (fun g2 s8 s wr => ∃ j : Nat, g2 + j = 4 ∧ s = .int .i64 (j : Int) ∧ s8 = .int .i64 ((tot j b' : Nat) : Int) ∧ Hid (Four w wr g S R B M b'))
          case atStart => exact ⟨0, by omega, rfl, rfl, HT5⟩
          case round =>
            clear HT5
            obtain ⟨j, hgj, rfl, rfl, HJ⟩ := hrel
            have htb : ((tot j b' : Nat) : Int) ≤ 65536 := by have := tot_bound b' j; omega
            by_cases hj : j < 4
            · have hji : (j : Int) < 4 := by omega
              have hj0 : ¬ (4 ≤ j) := by omega
              have c0 := HJ.out.arr j hj
              have HC := Lib.hid (sys_chunks HJ.out.sys hj)
              go_wp2_with fail
              refine HC.out.mono ?_
              rintro e wx ⟨rfl, rfl⟩
              have HJd := Lib.hid HJ.out.drew
              obtain ⟨NN, hNN⟩ : ∃ NN, NN = (b' j).n := ⟨_, rfl⟩
              obtain ⟨ZZ, hZZ⟩ : ∃ ZZ, ZZ = (b' j).size := ⟨_, rfl⟩
              obtain ⟨LL, hLL⟩ : ∃ LL, LL = holesL (((b' j).size + 15) / 16) (b' j).th := ⟨_, rfl⟩
              have hcnt : NN + LL.length = (ZZ + 15) / 16 := by rw [hNN, hZZ, hLL]; exact chunks_holes (HJ.out.sys.bod j hj).ok
              have hsz : ZZ ≤ 65536 := by rw [hZZ]; exact (HJ.out.sys.bod j hj).ok.size
              have c1 : wr.drew.cell? ⟨g, j, none⟩ = some (Pq (B j)) := c0
              have hgl : g < wr.drew.heap.size := HJ.out.glt
              have C1 := sys_chunks HJd.out.sys hj
              have C2 := sys_holes HJd.out.sys hj
              have C3 : ∀ W, Below wr.drew.heap.size wr.drew W → Calls Try.prog 24 #[Pq (B j)] W (fun e w' => e = .returned (.int .i64 (ZZ : Int)) ∧ W = w') := fun W hW => by rw [hZZ]; exact sys_size (HJd.out.below hW).sys hj
              have C3d := C3 _ (Below.refl _ _)
              rw [← hNN] at C1
              rw [← hLL] at C2
              have HTS := Lib.hid (tot_succ j b')
              rw [← hNN] at HTS
              have HCC := Lib.hid hcnt
              have HSZ := Lib.hid hsz
              have hNNi : (NN : Int) ≤ 4096 := by omega
              have hw1 : IntKind.i64.wrap ((NN : Int) + (LL.length : Int)) = (((ZZ + 15) / 16 : Nat) : Int) := by rw [IntWalk.i64_in _ (by omega)]; omega
              have hw2 : IntKind.i64.wrap ((ZZ : Int) + 16) = (ZZ : Int) + 16 := IntWalk.i64_in _ (by omega)
              have hw3 : IntKind.i64.wrap ((ZZ : Int) + 16 - 1) = (ZZ : Int) + 15 := by rw [IntWalk.i64_in _ (by omega)]; omega
              have hw4 : IntKind.i64.wrap (((ZZ : Int) + 15).tdiv 16) = ((ZZ : Int) + 15) / 16 := by rw [Int.tdiv_eq_ediv_of_nonneg (by omega), IntWalk.i64_in _ (by omega)]
              rw [← hNN]
              clear hcnt hsz hNN hZZ hLL c0
              go_upto_region 18 with fail
              go_region_held3 (fun w' => w'.cell? ⟨g, j, none⟩ = some (Pq (B j)))
                (first | exact c1 | assumption | go_keep)
                (first
                | (go_at_call 25; (with_reducible refine C1.mono ?_); rintro e w2 ⟨rfl, rfl⟩)
                | (go_at_call 28; (with_reducible refine C2.mono ?_); rintro e w2 ⟨v, rfl, hown, hb⟩; obtain ⟨A2, c2, rfl⟩ := own_slice hown; have cc := (hb.cell (p := ⟨g, j, none⟩) hgl).trans c1; have C4 := C3 w2 hb; have HB2 := Lib.hid hb; clear hown hb)
                | (go_at_call 24; first | ((with_reducible refine C4.mono ?_); rintro e w3 ⟨rfl, rfl⟩) | ((with_reducible refine C3d.mono ?_); rintro e w3 ⟨rfl, rfl⟩)))
              all_goals
                have HJ2 := Lib.hid (HJd.out.below HB2.out)
                clear C1 C2 C3 C3d C4 c1 cc hgl HB2
                go_wp2_with fail
                go_roundg (gk - 1)
                case measure => omega
                case rel => exact ⟨j + 1, by omega, by go_num, by rw [HTS.out]; go_num, HJ2⟩
            · have hji : ¬ ((j : Int) < 4) := by omega
              have hjd : 4 ≤ j := by omega
              obtain rfl : j = 4 := by omega
              have HU := Lib.hid (sys_used HJ.out.sys)
              have hle : ¬ ((R : Int) < ((tot 4 b' : Nat) : Int)) := by have := HJ.out.sys.le; omega
              have hld : decide (R < tot 4 b') = false := by have := HJ.out.sys.le; simp; omega
              generalize tot 4 b' = tt at *
              go_wp2_with fail
              refine HU.out.mono ?_
              rintro e wx ⟨rfl, rfl⟩
              clear HU
              go_wp2_with fail
              go_roundg (60 - (k + 1))
              case measure => omega
              case rel => exact ⟨k + 1, b', by omega, by omega, by go_num, HJ⟩
        · rw [hlb] at HL
          go_wp2_with fail
          refine HL.out.mono ?_
          rintro e w4 ⟨rfl, hb4⟩
          have HB4 := Lib.hid (HT.out.below hb4).bel
          clear hb4
          go_wp2_with fail
          go_ret
          exact ⟨rfl, HB4.out⟩
      · have hsplit : (k < n ∧ k = 60) ∨ ¬ k < n := by omega
        clear hgo
        rcases hsplit with ⟨hkn, rfl⟩ | hkn
        all_goals
          go_wp2_with fail
          go_loopg [98] 4 (fun g2 s wr => ∃ (j : Nat) (b : Nat → AB), g2 + j = 4 ∧ s = .int .i64 (j : Int) ∧ Hid (Four w wr g S R B M b) ∧ Hid (∀ i, i < j → (b i).n = 0))
          case atStart => exact ⟨0, b, by omega, rfl, HT, Lib.hid (fun i hi => absurd hi (Nat.not_lt_zero _))⟩
          case round =>
            clear HT
            obtain ⟨j, b, hgj, rfl, HJ, HZ⟩ := hrel
            by_cases hj : j < 4
            · have hji : (j : Int) < 4 := by omega
              have c0 := HJ.out.arr j hj
              have HFR := Lib.hid (sys_free HJ.out.sys hj)
              go_wp2_with fail
              refine HFR.out.mono ?_
              rintro e wx ⟨rfl, h2, ho2⟩
              have HJ2 := Lib.hid (HJ.out.step h2 ho2)
              have HZ2 := Lib.hid (show ∀ i, i < j + 1 → (updF b j (cut (b j) 0) i).n = 0 from fun i hi => by
                by_cases e : i = j
                · subst e; rw [updF_same]; exact (cut0).2.1
                · rw [updF_other e]; exact HZ.out i (by omega))
              clear h2 ho2 HFR c0
              go_wp2_with fail
              go_roundg (gk - 1)
              case measure => omega
              case rel => exact ⟨j + 1, _, by omega, by go_num, HJ2, HZ2⟩
            · have hji : ¬ ((j : Int) < 4) := by omega
              have h0 : tot 4 b = 0 := by
                show 0 + (b 0).n + (b 1).n + (b 2).n + (b 3).n = 0
                rw [HZ.out 0 (by omega), HZ.out 1 (by omega), HZ.out 2 (by omega), HZ.out 3 (by omega)]
              have HU := Lib.hid (sys_used HJ.out.sys)
              rw [h0] at HU
              clear h0
              go_wp2_with fail
              refine HU.out.mono ?_
              rintro e wx ⟨rfl, rfl⟩
              go_wp2_with fail
              go_ret
              exact ⟨rfl, HJ.out.bel⟩
  · have hbad : room < 0 ∨ 65536 < room := by omega
    have HN := Lib.hid (new_no room w1 hbad)
    clear hr
    rcases hbad with hb1 | hb1
    · go_wp2_with fail
      refine HN.out.mono ?_
      rintro e w2 ⟨rfl, rfl⟩
      go_wp2_with fail
      go_ret
      exact ⟨rfl, HB1.out⟩
    · have hb2 : ¬ room < 0 := by omega
      go_wp2_with fail
      refine HN.out.mono ?_
      rintro e w2 ⟨rfl, rfl⟩
      go_wp2_with fail
      go_ret
      exact ⟨rfl, HB1.out⟩

set_option maxRecDepth 100000 in
theorem lifted (os : Os) (started : os.Started) (H : Type) (enc : TypeId × Value → H) :
    ReturnsInHanded {} Try.checked os 4 .any (Rows.blockRoomSpec.pre6 enc Try.prog Try.f4 Rows.blockRoomRow.domain false) (Rows.blockRoomSpec.post enc Try.prog Try.f4 false true false false) := by
  refine returnsInHanded_of_change (C := Try.checked) own started (by kernel_rfl) Try.func4
    (ChangeSpec.witness6 (enc := enc) (C := Try.checked) false ⟨#[], #[.int .i64 0, .slice none 0 0], []⟩ 8 (by kernel_rfl) (by kernel_rfl) (by kernel_rfl) (by kernel_rfl)) ?_
  intro W base args ds gs before hval0 hW hcnd _
  have hval : ∀ (j : Nat) t v, Try.f4.params[j]? = some t → args[j]? = some v → Value.okWide Try.prog W .any base t v := hval0
  have hW' := hW
  obtain ⟨p, q, hA0, hV, rfl, hfz, hnd⟩ := hW
  have hA : DataW.TrodAll enc Try.prog W 0 (fun _ => true) true Try.f4.params.toList args.toList ds p := hA0
  rw [Try.params4] at hA hval
  obtain ⟨v0, vs0, d0, ds0, p0, q0, hargs, rfl, rfl, h0, r0⟩ := trodAll_cons hA
  obtain ⟨v1, vs1, d1, ds1, p1, q1, rfl, rfl, rfl, h1, r1⟩ := trodAll_cons r0
  obtain ⟨rfl, rfl, rfl⟩ := trodAll_nil r1
  obtain rfl : args = #[v0, v1] := by cases args; simp_all
  obtain ⟨rfl, rfl⟩ := trodVars_none hV
  have hlt := fun x hx => hW'.lt x hx
  obtain ⟨a0, rfl, rfl, rfl, w0⟩ := open_int Try.underlying3 (hval 0 3 v0 rfl rfl) h0
  have t1 := h1
  obtain ⟨A1, n1, c1, x1, rfl, e1, s1⟩ := open_acts (hval 1 22 v1 rfl rfl) h1
  clear hA0 hval0
  refine (walk a0 A1 n1 c1 x1 W e1 s1).mono fun e W' ⟨he, hg⟩ => ?_
  subst he
  exact ⟨_, rfl, law_post (pv := []) hW' (fun _ _ _ => (trodAll_cons_mk (shut_bool Try.underlying4 _) trodAll_mk0)) (fun sp hsp => (trodAll_cons_mk (shut_int Try.underlying3 w0) (trodAll_cons_mk (arg_stays (by decide) t1 hg (by simp +contextual) hlt hsp laid) trodAll_mk0))) (fun _ _ => rfl) (by simp)
    hg (ok_one (by kernel_rfl) rfl (okWide_bool_mk Try.underlying4 _))⟩

theorem over : Rows.blockRoomRow.holds Try.pinned (OpenSpec.ofChange Rows.blockRoomSpec) :=
  OpenClaim.holds_of_wide 4 Try.f4 rfl rfl rfl rfl rfl rfl rfl ⟨rfl, rfl, rfl, rfl, rfl⟩ rfl rfl rfl rfl rfl (by kernel_rfl) Try.func4 (by kernel_rfl)
    (of_decide_eq_true (by kernel_rfl)) (by unfold Func.isWrapper; first | (rw [if_pos (by decide +kernel)]; kernel_rfl) | (rw [if_neg (by decide +kernel)]; exact ⟨rfl, rfl⟩))
    (fun os started H enc _ => lifted os started H enc)

/-- The statement. -/
theorem proved : Rows.BlockRoomSaid :=
  over
end Go.Proofs.Ytpnnonphagddgaa.blockRoom
