/- For every room, every list of acts and any two sizes the law BlockCuts returns true, and what is handed in reads as it did; there are no conditions. -/
import Derived.Test.YtpnnonphagddgaaLaw0
import Derived.Deep.RegionWith
import Derived.ProofKit
import Derived.OpenShut
namespace Go.Proofs.Ytpnnonphagddgaa.blockCuts
open Go.ChangeShapes Go.WideShapes Go.ChangeAt Go.RowKit
set_option linter.unusedVariables false

theorem own : ownKnob Try.prog.godebug = none := by kernel_rfl
theorem laid : laidOutB Try.prog = true := by kernel_rfl

theorem cutR_cases (x : Int) : (x < 0 ∧ cutR x = 22) ∨ (¬ x < 0 ∧ 65536 < x ∧ cutR x = 27) ∨ (¬ x < 0 ∧ ¬ 65536 < x ∧ cutR x = 0) := by
  unfold cutR
  by_cases h : x < 0
  · exact Or.inl ⟨h, by rw [if_pos h]⟩
  · by_cases h2 : 65536 < x
    · exact Or.inr (Or.inl ⟨h, h2, by rw [if_neg h, if_pos h2]⟩)
    · exact Or.inr (Or.inr ⟨h, h2, by rw [if_neg h, if_neg h2]⟩)
theorem cut_cut {b : AB} (ok : b.Ok) {s g : Nat} (hg : g ≤ 65536) (hs : s ≤ g) : (cut (cut b (s : Int)) (g : Int)).size = g ∧ ∀ i, i < g → (cut (cut b (s : Int)) (g : Int)).dat i = if i < s ∧ i < b.size then b.dat i else 0 := by
  have h1 : cut b (s : Int) = cutB b s := by unfold cut; rw [if_pos (by omega), Int.toNat_natCast]
  have h2 : cut (cutB b s) (g : Int) = cutB (cutB b s) g := by unfold cut; rw [if_pos (by omega), Int.toNat_natCast]
  rw [h1, h2]
  refine ⟨rfl, fun i hi => ?_⟩
  show (if i < g then (if i < s then b.dat i else 0) else 0) = _
  rw [if_pos hi]
  by_cases h : i < s
  · rw [if_pos h]
    by_cases h3 : i < b.size
    · rw [if_pos ⟨h, h3⟩]
    · rw [if_neg (by omega), ok.dat i (by omega)]
  · rw [if_neg h, if_neg (by omega)]

set_option maxHeartbeats 8000000 in
set_option maxRecDepth 100000 in
theorem walk (room : Int) (A : Option Addr) (n c : Nat) (F : Nat → Act5) (small great : Int) (w : World) (k1 : n ≤ c ∧ c ≤ maxLen) (hF : Acts w w.heap.size A n F) :
    Calls Try.prog 6 #[.int .i64 room, .slice A n c, .int .i64 small, .int .i64 great] w (AwakeE w) := by
  have hnm : (n : Int) ≤ 9223372036854775807 := by have := k1.1; have := k1.2; unfold maxLen at this; omega
  clear k1
  have HF0 := Lib.hid hF
  clear hF
  go_enter Try.func6, Try.ntmps6
  go_wp2_with fail
  refine (awake_any _).mono ?_
  rintro e w1 ⟨rfl, hb1⟩
  have HB1 := Lib.hid hb1
  clear hb1
  by_cases hr : 0 ≤ room ∧ room ≤ 65536
  · obtain ⟨R, hR⟩ : ∃ R : Nat, room = (R : Int) := ⟨room.toNat, by omega⟩
    have HRM := Lib.hid (show R ≤ 65536 by omega)
    subst hR
    clear hr
    go_wp2_with fail
    refine (new_yes R w1 HRM.out).mono ?_
    rintro e w2 ⟨rfl, hw2⟩
    have HS2 := Lib.hid (one_new HRM.out hw2)
    have HB2 := Lib.hid (show Below w.heap.size w w2 by rw [hw2]; exact HB1.out.alloc HB1.out.size _)
    have HZ := Lib.hid (show w2.heap.size = w1.heap.size + 1 by rw [hw2]; simp)
    clear hw2
    go_wp2_with fail
    refine (one_body HS2.out).mono ?_
    rintro e w3 ⟨rfl, h3, hb3⟩
    have HF := Lib.hid (show ∀ x, F1 w1.heap.size (w2.heap.size + 1) w2.heap.size x → w.heap.size ≤ x from fun x hx => by
      have := HB1.out.size
      have := HB2.out.size
      rcases F1_or.1 hx with e | e | e <;> omega)
    have HB3 := Lib.hid (below_step HB2.out (hb3.mono HB2.out.size))
    have HT3 := Lib.hid h3
    clear h3 hb3 HS2
    generalize w1.heap.size = S at *
    generalize w2.heap.size + 1 = P at *
    generalize w2.heap.size = Q at *
    clear HZ HB1 HB2
    go_wp2_with fail
    go_loopg [11] 60 (fun g s wr => ∃ (k : Nat) (b : AB), g + k = 60 ∧ k ≤ n ∧ s = .int .i64 (k : Int) ∧ Hid (One wr S R P Q b) ∧ Hid (Below w.heap.size w wr))
    case atStart => exact ⟨0, AB.empty, by omega, by omega, rfl, HT3, HB3⟩
    case round =>
      clear HT3 HB3
      obtain ⟨k, b, hgk, hk, rfl, HT, HBL⟩ := hrel
      have hk60 : k ≤ 60 := by omega
      by_cases hgo : k < n ∧ k < 60
      · obtain ⟨hkn, hk2⟩ := hgo
        obtain ⟨ab, ao, rfl, hab, f0, f1, f2, f3, f4, hsrc⟩ := (HF0.out.below HBL.out) k hkn
        generalize F k = x at *
        have HSRC := Lib.hid hsrc
        have HW := Lib.hid HBL.out.size
        have HAB := Lib.hid hab
        have habr : ab < wr.heap.size := Nat.lt_of_lt_of_le hab HBL.out.size
        have HL := Lib.hid (large_any x wr (Nat.le_trans hsrc.1.1 hsrc.1.2))
        clear hsrc hab
        cases hlb : largeB x
        · rw [hlb] at HL
          go_wp2_with fail
          refine HL.out.mono ?_
          rintro e w4 ⟨rfl, hb4⟩
          have g0 := (hb4.cell (p := ⟨ab, ao + k * 5, none⟩) habr).trans f0
          have g1 := (hb4.cell (p := ⟨ab, ao + k * 5 + 1, none⟩) habr).trans f1
          have g2 := (hb4.cell (p := ⟨ab, ao + k * 5 + 2, none⟩) habr).trans f2
          have g3 := (hb4.cell (p := ⟨ab, ao + k * 5 + 3, none⟩) habr).trans f3
          have g4 := (hb4.cell (p := ⟨ab, ao + k * 5 + 4, none⟩) habr).trans f4
          have HB4 := Lib.hid (below_step HBL.out (hb4.mono HW.out))
          have HP := Lib.hid (one_play (HT.out.below hb4) x HB4.out.size HF.out (HSRC.out.below (hb4.mono HW.out)))
          have hab4 : ab < w4.heap.size := Nat.lt_of_lt_of_le habr hb4.size
          clear hb4 f0 f1 f2 f3 f4 habr HL hlb HT HBL
          go_wp2_with fail
          refine HP.out.mono ?_
          rintro e w5 ⟨rfl, b', h5, ho5⟩
          have HT5 := Lib.hid h5
          have HB5 := Lib.hid (ho5.below HB4.out (Nat.le_refl _) HF.out)
          clear h5 ho5 HP g0 g1 g2 g3 g4
          go_wp2_with fail
          go_roundg (gk - 1)
          case measure => omega
          case rel => exact ⟨k + 1, b', by omega, by omega, by go_num, HT5, HB5⟩
        · rw [hlb] at HL
          go_wp2_with fail
          refine HL.out.mono ?_
          rintro e w4 ⟨rfl, hb4⟩
          have HB4 := Lib.hid (below_step HBL.out (hb4.mono HW.out))
          clear hb4
          go_wp2_with fail
          go_ret
          exact ⟨rfl, HB4.out⟩
      · have hsplit : (k < n ∧ k = 60) ∨ ¬ k < n := by omega
        clear hgo
        have HW := Lib.hid HBL.out.size
        rcases hsplit with ⟨hkn, rfl⟩ | hkn
        all_goals
          have HRD := Lib.hid (one_read HT.out 0 65536)
          have HSZ := Lib.hid HT.out.ok.size
          unfold ReadE at HRD
          rw [readR_all HT.out.ok] at HRD
          go_wp2_with fail
          refine HRD.out.mono ?_
          rintro e w5 ⟨A5, c5, rfl, hrow, hb5⟩
          have HR5 := Lib.hid hrow
          have HT5 := Lib.hid (HT.out.below hb5)
          have HB5 := Lib.hid (below_step HBL.out (hb5.mono HW.out))
          have HF5 := Lib.hid HT.out.F_lt
          have HOK := Lib.hid HT.out.ok
          clear hrow hb5 HRD HT HBL
          have HU := Lib.hid (one_used HT5.out)
          have HC := Lib.hid (one_cut HT5.out small)
          obtain ⟨E1, hE1⟩ : ∃ E1, E1 = cutR small := ⟨_, rfl⟩
          rw [← hE1] at HC
          have HE1 := Lib.hid hE1
          clear hE1
          go_wp2_with fail
          refine HU.out.mono ?_
          rintro e w6 ⟨rfl, rfl⟩
          go_wp2_with fail
          refine HC.out.mono ?_
          rintro e w6 ⟨rfl, h6, ho6⟩
          have HT6 := Lib.hid h6
          have HO6 := Lib.hid ho6
          have HB6 := Lib.hid (ho6.below HB5.out (Nat.le_refl _) HF.out)
          clear h6 ho6 HU HC HT5
          have HC := Lib.hid (one_cut HT6.out great)
          obtain ⟨E2, hE2⟩ : ∃ E2, E2 = cutR great := ⟨_, rfl⟩
          rw [← hE2] at HC
          have HE2 := Lib.hid hE2
          clear hE2
          go_wp2_with fail
          refine HC.out.mono ?_
          rintro e w7 ⟨rfl, h7, ho7⟩
          have HT7 := Lib.hid h7
          have HO7 := Lib.hid (HO6.out.trans ho7)
          have HB7 := Lib.hid (ho7.below HB6.out (Nat.le_refl _) HF.out)
          clear h7 ho7 HC HT6
          rcases cutR_cases small with ⟨s1, s2⟩ | ⟨s1, s3, s2⟩ | ⟨s1, s3, s2⟩
          · obtain rfl : E1 = 22 := HE1.out.trans s2
            clear s2
            go_wp2
            go_ret
            exact ⟨rfl, HB7.out⟩
          · obtain rfl : E1 = 27 := HE1.out.trans s2
            clear s2
            go_wp2
            go_ret
            exact ⟨rfl, HB7.out⟩
          rcases cutR_cases great with ⟨g1, g2⟩ | ⟨g1, g3, g2⟩ | ⟨g1, g3, g2⟩
          · obtain rfl : E1 = 0 := HE1.out.trans s2
            obtain rfl : E2 = 22 := HE2.out.trans g2
            clear s2 g2
            go_wp2
            go_ret
            exact ⟨rfl, HB7.out⟩
          · obtain rfl : E1 = 0 := HE1.out.trans s2
            obtain rfl : E2 = 27 := HE2.out.trans g2
            clear s2 g2
            go_wp2
            go_ret
            exact ⟨rfl, HB7.out⟩
          obtain rfl : E1 = 0 := HE1.out.trans s2
          obtain rfl : E2 = 0 := HE2.out.trans g2
          clear s2 g2
          by_cases hgs : great < small
          · go_wp2
            go_ret
            exact ⟨rfl, HB7.out⟩
          obtain ⟨s, hs⟩ : ∃ s : Nat, small = (s : Int) := ⟨small.toNat, by omega⟩
          obtain ⟨G, hG⟩ : ∃ G : Nat, great = (G : Int) := ⟨great.toNat, by omega⟩
          have HCC := Lib.hid (cut_cut HOK.out (s := s) (g := G) (by omega) (by omega))
          have HCN := Lib.hid (show (cut (cut b small) great).n ≤ b.n from Nat.le_trans (cut_n _ _) (cut_n _ _))
          rw [← hs, ← hG] at HCC
          have HSM := Lib.hid hs
          have HGM := Lib.hid hG
          generalize cut (cut b small) great = b2 at *
          have HOK7 := Lib.hid HT7.out.ok
          have HF7 := Lib.hid HT7.out.F_lt
          have HRD := Lib.hid (one_read HT7.out 0 65536)
          unfold ReadE at HRD
          rw [readR_all HOK7.out, HCC.out.1] at HRD
          clear hs hG
          go_wp2_with fail
          refine HRD.out.mono ?_
          rintro e w8 ⟨A8, c8, rfl, hrow, hb8⟩
          have HR8 := Lib.hid hrow
          have HT8 := Lib.hid (HT7.out.below hb8)
          have HW7 := Lib.hid (show w.heap.size ≤ w7.heap.size from HB7.out.size)
          have HB8 := Lib.hid (below_step HB7.out (hb8.mono HW7.out))
          have HR5' := Lib.hid ((HR5.out.only HO7.out HF5.out).only (Only.of_below (F := F1 S P Q) hb8) HF5.out)
          have HU := Lib.hid (one_used HT8.out)
          have hne : ((G : Int) != great) = false := by have := HGM.out; simp; omega
          have hnn : ¬ ((b.n : Int) < (b2.n : Int)) := by have := HCN.out; omega
          have hnd : decide (b.n < b2.n) = false := by have := HCN.out; simp; omega
          have hGl : (G : Int) ≤ 65536 := by have := HGM.out; omega
          clear hrow hb8 HRD HT7
          go_wp2_with fail
          refine HU.out.mono ?_
          rintro e w9 ⟨rfl, rfl⟩
          go_wp2_with fail
          go_loopg [126] G (fun g s wy => ∃ i : Nat, g + i = G ∧ s = .int .i64 (i : Int) ∧ w8 = wy)
          case atStart => exact ⟨0, by omega, rfl, rfl⟩
          case round =>
            obtain ⟨i, hgi, rfl, rfl⟩ := hrel
            by_cases hlt : i < G
            · rcases HR8.out.2 with ⟨_, h0⟩ | ⟨g8, _, rfl, hg8⟩
              · exfalso; omega
              have d8 := (cell_of_row _ _ i _ 5 (0, 0) hg8).trans (by simpa using rowF_get (L := G) (fun j => b2.dat ((0 : Int).toNat + j)) hlt)
              have hd := HCC.out.2 i hlt
              have hGI : (i : Int) < (G : Int) := by omega
              by_cases hw : i < s ∧ i < b.size
              · rcases HR5'.out.2 with ⟨_, h0⟩ | ⟨g5, _, rfl, hg5⟩
                · exfalso; omega
                have d5 := (cell_of_row _ _ i _ 5 (0, 0) hg5).trans (by simpa using rowF_get (L := b.size) (fun j => b.dat ((0 : Int).toNat + j)) hw.2)
                rw [if_pos hw] at hd
                have e8 : w8.cell? ⟨g8, i, none⟩ = some (U8 (b.dat i)) := by rw [← hd]; simpa using d8
                have e5 : w8.cell? ⟨g5, i, none⟩ = some (U8 (b.dat i)) := by simpa using d5
                generalize b.dat i = u at e8 e5
                have hi1 : (i : Int) < small := by have := HSM.out; omega
                have hi2 : (i : Int) < (b.size : Int) := by omega
                unfold U8 at e8 e5
                clear d8 d5 hd hg8 hg5 hw
                go_wp2
                go_roundg (gk - 1)
                case measure => omega
                case rel => exact ⟨i + 1, by omega, by go_num, rfl⟩
              · rw [if_neg hw] at hd
                have e8 : w8.cell? ⟨g8, i, none⟩ = some (.int .u8 0) := by rw [show Value.int .u8 0 = U8 0 from rfl, ← hd]; simpa using d8
                have hcase : ¬ (i : Int) < small ∨ ((i : Int) < small ∧ ¬ (i : Int) < (b.size : Int)) := by have := HSM.out; omega
                clear d8 hd hg8 hw
                rcases hcase with hi1 | ⟨hi1, hi2⟩
                all_goals
                  go_wp2
                  go_roundg (gk - 1)
                  case measure => omega
                  case rel => exact ⟨i + 1, by omega, by go_num, rfl⟩
            · have hGI : ¬ ((i : Int) < (G : Int)) := by omega
              go_wp2
              go_ret
              exact ⟨rfl, HB8.out⟩
  · have hbad : room < 0 ∨ 65536 < room := by omega
    have HN := Lib.hid (new_no room w1 hbad)
    clear hr hbad
    go_wp2_with fail
    refine HN.out.mono ?_
    rintro e w2 ⟨rfl, rfl⟩
    go_wp2_with fail
    go_ret
    exact ⟨rfl, HB1.out⟩

set_option maxRecDepth 100000 in
theorem lifted (os : Os) (started : os.Started) (H : Type) (enc : TypeId × Value → H) :
    ReturnsInHanded {} Try.checked os 6 .any (Rows.blockCutsSpec.pre6 enc Try.prog Try.f6 Rows.blockCutsRow.domain false) (Rows.blockCutsSpec.post enc Try.prog Try.f6 false true false false) := by
  refine returnsInHanded_of_change (C := Try.checked) own started (by kernel_rfl) Try.func6
    (ChangeSpec.witness6 (enc := enc) (C := Try.checked) false ⟨#[], #[.int .i64 0, .slice none 0 0, .int .i64 0, .int .i64 0], []⟩ 8 (by kernel_rfl) (by kernel_rfl) (by kernel_rfl) (by kernel_rfl)) ?_
  intro W base args ds gs before hval0 hW hcnd _
  have hval : ∀ (j : Nat) t v, Try.f6.params[j]? = some t → args[j]? = some v → Value.okWide Try.prog W .any base t v := hval0
  have hW' := hW
  obtain ⟨p, q, hA0, hV, rfl, hfz, hnd⟩ := hW
  have hA : DataW.TrodAll enc Try.prog W 0 (fun _ => true) true Try.f6.params.toList args.toList ds p := hA0
  rw [Try.params6] at hA hval
  obtain ⟨v0, vs0, d0, ds0, p0, q0, hargs, rfl, rfl, h0, r0⟩ := trodAll_cons hA
  obtain ⟨v1, vs1, d1, ds1, p1, q1, rfl, rfl, rfl, h1, r1⟩ := trodAll_cons r0
  obtain ⟨v2, vs2, d2, ds2, p2, q2, rfl, rfl, rfl, h2, r2⟩ := trodAll_cons r1
  obtain ⟨v3, vs3, d3, ds3, p3, q3, rfl, rfl, rfl, h3, r3⟩ := trodAll_cons r2
  obtain ⟨rfl, rfl, rfl⟩ := trodAll_nil r3
  obtain rfl : args = #[v0, v1, v2, v3] := by cases args; simp_all
  obtain ⟨rfl, rfl⟩ := trodVars_none hV
  have hlt := fun x hx => hW'.lt x hx
  obtain ⟨a0, rfl, rfl, rfl, w0⟩ := open_int Try.underlying3 (hval 0 3 v0 rfl rfl) h0
  have t1 := h1
  obtain ⟨A1, n1, c1, x1, rfl, e1, s1⟩ := open_acts (hval 1 22 v1 rfl rfl) h1
  obtain ⟨a2, rfl, rfl, rfl, w2⟩ := open_int Try.underlying2 (hval 2 2 v2 rfl rfl) h2
  obtain ⟨a3, rfl, rfl, rfl, w3⟩ := open_int Try.underlying2 (hval 3 2 v3 rfl rfl) h3
  clear hA0 hval0
  refine (walk a0 A1 n1 c1 x1 a2 a3 W e1 s1).mono fun e W' ⟨he, hg⟩ => ?_
  subst he
  exact ⟨_, rfl, law_post (pv := []) hW' (fun _ _ _ => (trodAll_cons_mk (shut_bool Try.underlying4 _) trodAll_mk0)) (fun sp hsp => (trodAll_cons_mk (shut_int Try.underlying3 w0) (trodAll_cons_mk (arg_stays (by decide) t1 hg (by simp +contextual) hlt hsp laid) (trodAll_cons_mk (shut_int Try.underlying2 w2) (trodAll_cons_mk (shut_int Try.underlying2 w3) trodAll_mk0))))) (fun _ _ => rfl) (by simp)
    hg (ok_one (by kernel_rfl) rfl (okWide_bool_mk Try.underlying4 _))⟩

theorem over : Rows.blockCutsRow.holds Try.pinned (OpenSpec.ofChange Rows.blockCutsSpec) :=
  OpenClaim.holds_of_wide 6 Try.f6 rfl rfl rfl rfl rfl rfl rfl ⟨rfl, rfl, rfl, rfl, rfl⟩ rfl rfl rfl rfl rfl (by kernel_rfl) Try.func6 (by kernel_rfl)
    (of_decide_eq_true (by kernel_rfl)) (by unfold Func.isWrapper; first | (rw [if_pos (by decide +kernel)]; kernel_rfl) | (rw [if_neg (by decide +kernel)]; exact ⟨rfl, rfl⟩))
    (fun os started H enc _ => lifted os started H enc)

/-- The statement. -/
theorem proved : Rows.BlockCutsSaid :=
  over
end Go.Proofs.Ytpnnonphagddgaa.blockCuts
