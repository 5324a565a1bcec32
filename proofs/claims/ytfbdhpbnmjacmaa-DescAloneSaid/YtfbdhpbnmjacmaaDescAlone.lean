/- For every two lists of acts and every descriptor the law DescAlone returns true, and what is handed in reads as it did; there are no conditions. -/
import Derived.Test.YtfbdhpbnmjacmaaDp
import Derived.Test.YtfbdhpbnmjacmaaDr
import Derived.Deep.RegionWith
import Derived.Deep.QuietTactic
import Derived.BigQuiet
import Derived.ProofKit
import Derived.OpenShut
import Derived.ShutString
namespace Go.Proofs.Ytfbdhpbnmjacmaa.descAlone
open Go.ChangeShapes Go.WideShapes Go.ChangeAt Go.RowKit
open Go.ChangeMaps (open_string shut_string)
open Go.Proofs.Ytfbdhpbnmjacmaa.ds
set_option linter.unusedVariables false

theorem own : ownKnob Try.prog.godebug = none := by kernel_rfl
theorem laid : laidOutB Try.prog = true := by kernel_rfl

theorem row_lt {w : World} {B : Nat} {o : Obj} (h : w.heap[B]? = some o) : B < w.heap.size := by
  rcases Nat.lt_or_ge B w.heap.size with h1 | h1
  · exact h1
  · rw [Array.getElem?_eq_none h1] at h; cases h
theorem open_keep {T : Tb} {j : Nat} {d d' : De} (h : T j = some d) : openT T d' j = some d := by
  unfold openT
  cases hl : low T with
  | none => exact h
  | some k =>
    have := (low_some hl).2.1
    show put T k (some d') j = some d
    rw [put_other _ _ (fun e => by rw [e, this] at h; cases h)]; exact h
theorem set_keep {T : Tb} {j : Nat} {d d' : De} {x : Int} (h : T j = some d) (hx : x ≠ (j : Int)) : setT T x d' j = some d := by
  unfold setT
  cases hs : spot T x with
  | none => exact h
  | some y =>
    obtain ⟨k, rfl, hk, _⟩ := spot_some hs
    show put T (k : Int).toNat (some d') j = some d
    rw [put_other _ _ (by simp; omega)]; exact h
theorem close_keep {T : Tb} {j : Nat} {d : De} {x : Int} (h : T j = some d) (hx : x ≠ (j : Int)) : closeT T x j = some d := by
  unfold closeT
  cases hs : spot T x with
  | none => exact h
  | some y =>
    obtain ⟨k, rfl, hk, _⟩ := spot_some hs
    show put T (k : Int).toNat none j = some d
    rw [put_other _ _ (by simp; omega)]; exact h
theorem act_keep {T : Tb} {j n : Nat} {d d' : De} {k x : Int} (h : T j = some d) (hx : x = (j : Int) → k = 0) : actT T n k x d' j = some d := by
  unfold actT
  by_cases h1 : 100 < n
  · rw [if_pos h1]; exact h
  rw [if_neg h1]
  by_cases h2 : k = 0
  · rw [if_pos h2]; exact open_keep h
  rw [if_neg h2]
  by_cases h3 : k = 1
  · rw [if_pos h3]; exact close_keep h (fun e => h2 (hx e))
  rw [if_neg h3]
  by_cases h4 : k = 2
  · rw [if_pos h4]; exact set_keep h (fun e => h2 (hx e))
  rw [if_neg h4]; exact h
set_option maxHeartbeats 4000000 in
set_option maxRecDepth 100000 in
theorem walk (A : Option Addr) (n c : Nat) (F : Nat → Act7) (A1 : Option Addr) (n1 c1 : Nat) (d : De) (A2 : Option Addr) (n2 c2 : Nat) (F2 : Nat → Act7) (w : World) (k1 : n ≤ c ∧ c ≤ maxLen) (hF : Acts w w.heap.size A n F ∧ Ads w n F) (hd : DA w A1 n1 c1 d)
    (k2 : n2 ≤ c2 ∧ c2 ≤ maxLen) (hF2 : Acts w w.heap.size A2 n2 F2 ∧ Ads w n2 F2) :
    Calls Try.prog 4 #[.slice A n c, DV A1 n1 c1 d, .slice A2 n2 c2] w (AwakeE w) := by
  have hnm : n ≤ 9223372036854775807 := by have := k1.1; have := k1.2; unfold maxLen at this; omega
  have hnm2 : n2 ≤ 9223372036854775807 := by have := k2.1; have := k2.2; unfold maxLen at this; omega
  have hnm1 : n1 ≤ 9223372036854775807 := by have := hd.cap.1; have := hd.cap.2; unfold maxLen at this; omega
  have HA := Lib.hid hF.1
  have HD := Lib.hid hF.2
  have HA2 := Lib.hid hF2.1
  have HD2 := Lib.hid hF2.2
  have HDA := Lib.hid hd
  clear k1 hF k2 hF2 hd
  obtain ⟨B, hB⟩ : ∃ B, w.heap.size = B := ⟨_, rfl⟩
  have HB := Lib.hid hB
  obtain ⟨d0, d1, d2, d3, xs, d5⟩ := d
  unfold DV
  dsimp only
  obtain ⟨w1, hw1⟩ : ∃ w1, w.alloc (.cells #[.int .i64 d0, .int .i64 d1, .int .i64 d2, .bool d3, .slice A1 n1 c1, .int .i64 d5] 30) = w1 := ⟨_, rfl⟩
  have hr1 : w1.heap[B]? = some (.cells #[.int .i64 d0, .int .i64 d1, .int .i64 d2, .bool d3, .slice A1 n1 c1, .int .i64 d5] 30 (0, 0)) := by rw [← hw1, ← hB]; exact heap_alloc_new w _
  have HR1 := Lib.hid hr1
  have HB1 := Lib.hid (show Below w.heap.size w w1 by rw [← hw1]; exact below_alloc w _)
  have hs1 : w1.heap.size = B + 1 := by rw [← hw1, World.size_alloc, hB]
  clear hr1
  go_enter Try.func4, Try.ntmps4
  go_wp2_with fail
  refine (awake_any _).mono ?_
  rintro e w2 ⟨rfl, hb2⟩
  have HR2 := Lib.hid ((hb2.block B (by omega)).trans HR1.out)
  have HB2 := Lib.hid (below_step HB1.out hb2)
  have hs2 := hb2.size
  have HN := Lib.hid (y_new HB2.out)
  clear hb2 HR1 HB1 hw1
  go_wp2_with fail
  refine HN.out.mono ?_
  rintro e w3 ⟨rfl, h3, hb3⟩
  generalize hP : w2.heap.size = P at *
  have H2 := Lib.hid (h3.weaken (Y := fun b => b = B) (fun b hb => by subst hb; omega))
  have HR3 := Lib.hid ((hb3.block B (by omega)).trans HR2.out)
  have c4 : w3.cell? ⟨B, 4, none⟩ = some (.slice A1 n1 c1) := by rw [cell_row HR3.out]; rfl
  clear h3 hb3 HN HR2 HB2 hs2 hs1 hP
  by_cases hn1 : 100 < n1
  · have hni : (100 : Int) < (n1 : Int) := by omega
    clear hn1
    go_wp2_with fail
    go_ret
    exact ⟨rfl, H2.out.bel⟩
  have hni : ¬ (100 : Int) < (n1 : Int) := by omega
  have hn1k : n1 ≤ 1000 := by omega
  clear hn1
  go_wp2_with fail
  clear c4
  go_loopg [8] 120 (fun g s wr => ∃ (k : Nat) (T : Tb), g + k = 120 ∧ k ≤ n ∧ s = .int .i64 k ∧ Hid (TY w wr P (fun b => b = B) T) ∧ Hid (wr.heap[B]? = some (.cells #[.int .i64 d0, .int .i64 d1, .int .i64 d2, .bool d3, .slice A1 n1 c1, .int .i64 d5] 30 (0, 0))))
  case atStart => exact ⟨0, em, by omega, by omega, rfl, H2, HR3⟩
  case round =>
    clear H2
    obtain ⟨k, T, hgk, hk, rfl, HT, HR⟩ := hrel
    by_cases hgo : k < n ∧ k < 120
    · obtain ⟨hkn, hk2⟩ := hgo
      obtain ⟨b, off, rfl, hbl, f0, f1, f2, f3, f4, f5, f6, f7⟩ := (HA.out.below HT.out.bel) k hkn
      have HP := Lib.hid (play_any (k := (F k).kind) (fd := (F k).fd) HT.out ((HD.out.below HT.out.bel) k hkn))
      generalize F k = x at *
      obtain ⟨xk, xf, xA, xn, xc, d0, d1, d2, d3, xs, d5⟩ := x
      unfold AL at HP
      dsimp only at f0 f1 f2 f3 f4 f5 f6 f7 HP
      generalize actT T xn xk xf _ = T' at HP
      clear HT
      go_wp2_with fail
      refine HP.out.mono ?_
      rintro e w3 ⟨⟨v, rfl⟩, h3, hs3⟩
      have HT3 := Lib.hid h3
      have HR4 := Lib.hid ((hs3 B rfl).trans HR.out)
      clear h3 HP
      go_wp2_with fail
      go_roundg (gk - 1)
      case measure => omega
      case rel => exact ⟨k + 1, T', by omega, by omega, by go_num, HT3, HR4⟩
    · have hsplit : (k < n ∧ k = 120) ∨ ¬ k < n := by omega
      clear hgo HA HD
      rcases hsplit with ⟨hkn, rfl⟩ | hkn
      all_goals
        have HRW := Lib.hid (show wr.rangeAt B 0 [.int .i64 d0, .int .i64 d1, .int .i64 d2, .bool d3, .slice A1 n1 c1, .int .i64 d5] from fun j v hv => by rw [Nat.zero_add, cell_row HR.out]; simpa using hv)
        have HFU := Lib.hid (y_full HT.out)
        have HOP := Lib.hid (y_open HT.out (HDA.out.below HT.out.bel) hn1k)
        unfold DV StE at *
        dsimp only at HOP
        have HND := Lib.hid (show n1 = xs.length from HDA.out.len)
        cases hl : low T with
        | none =>
          rw [show full T = true by unfold full; rw [hl]; rfl] at HFU
          rw [show lowV T = (0, 24) by unfold lowV; rw [hl]] at HOP
          clear HT HR hl
          go_wp2_with fail
          refine HFU.out.mono ?_
          rintro e w5 ⟨rfl, hw5⟩
          subst hw5
          go_wp2_with (first | refine wpList_load_mid (by rfl) 30 (.tmp 4) (by rfl) B 0 (by rfl) _ _ HRW.out Try.underlying30 (by rfl) (by kernel_rfl) ?_)
          refine HOP.out.mono ?_
          rintro e w6 ⟨rfl, h6, -⟩
          have HB6 := Lib.hid h6.bel
          clear h6 HRW HFU HOP
          go_wp2_with fail
          go_ret
          exact ⟨rfl, HB6.out⟩
        | some j =>
          obtain ⟨hj, hTj, -⟩ := low_some hl
          rw [show full T = false by unfold full; rw [hl]; rfl] at HFU
          rw [show lowV T = ((j : Int), 0) by unfold lowV; rw [hl], show openT T ⟨d0, d1, d2, d3, xs, d5⟩ = put T j (some ⟨d0, d1, d2, d3, xs, d5⟩) by unfold openT; rw [hl]] at HOP
          have HTJ := Lib.hid (put_same T j (some (⟨d0, d1, d2, d3, xs, d5⟩ : De)))
          generalize put T j (some ⟨d0, d1, d2, d3, xs, d5⟩) = T2 at *
          clear HT hl hTj
          go_wp2_with fail
          refine HFU.out.mono ?_
          rintro e w5 ⟨rfl, hw5⟩
          subst hw5
          go_wp2_with (first | refine wpList_load_mid (by rfl) 30 (.tmp 4) (by rfl) B 0 (by rfl) _ _ HRW.out Try.underlying30 (by rfl) (by kernel_rfl) ?_)
          refine HOP.out.mono ?_
          rintro e w6 ⟨rfl, h6, hs6⟩
          have H6 := Lib.hid h6
          have HR6 := Lib.hid ((hs6 B rfl).trans HR.out)
          clear h6 hs6 HR HRW HFU HOP
          go_wp2_with fail
          go_loopg [12] 120 (fun g s wr => ∃ (k : Nat) (T : Tb), g + k = 120 ∧ k ≤ n2 ∧ s = .int .i64 k ∧ Hid (TY w wr P (fun b => b = B) T) ∧ Hid (T j = some ⟨d0, d1, d2, d3, xs, d5⟩) ∧ Hid (wr.heap[B]? = some (.cells #[.int .i64 d0, .int .i64 d1, .int .i64 d2, .bool d3, .slice A1 n1 c1, .int .i64 d5] 30 (0, 0))))
          case atStart => exact ⟨0, T2, by omega, by omega, rfl, H6, HTJ, HR6⟩
          case round =>
            clear H6 HTJ HR6
            obtain ⟨k, T, hgk, hk, rfl, HT, HTJ, HR⟩ := hrel
            by_cases hgo : k < n2 ∧ k < 120
            · obtain ⟨hkn, hk2⟩ := hgo
              obtain ⟨b, off, rfl, hbl, f0, f1, f2, f3, f4, f5, f6, f7⟩ := (HA2.out.below HT.out.bel) k hkn
              have hdx := (HD2.out.below HT.out.bel) k hkn
              generalize F2 k = x at *
              obtain ⟨xk, xf, xA, xn, xc, e0, e1, e2, e3, ys, e5⟩ := x
              dsimp only at f0 f1 f2 f3 f4 f5 f6 f7 hdx
              obtain ⟨G, hG⟩ : ∃ G, wr.heap.size = G := ⟨_, rfl⟩
              have hbo := below_alloc wr (.cells #[.int .i64 xk, .int .i64 xf, .int .i64 e0, .int .i64 e1, .int .i64 e2, .bool e3, .slice xA xn xc, .int .i64 e5] 35)
              have HT4 := Lib.hid (HT.out.below hbo)
              have HR4 := Lib.hid ((hbo.block B (row_lt HR.out)).trans HR.out)
              have hr8 := range8 (heap_alloc_new wr (.cells #[.int .i64 xk, .int .i64 xf, .int .i64 e0, .int .i64 e1, .int .i64 e2, .bool e3, .slice xA xn xc, .int .i64 e5] 35))
              rw [hG] at hr8
              have HRG := Lib.hid hr8.2.2.2
              have HDX := Lib.hid (hdx.below hbo)
              have HP := Lib.hid (play_any (k := xk) (fd := xf) HT4.out HDX.out)
              unfold AL at HP
              dsimp only at HP
              clear hbo hr8 HT HR
              by_cases hsk : xf = (j : Int) ∧ xk ≠ 0
              · obtain ⟨rfl, hk0⟩ := hsk
                have q0 : (xk != 0) = true := by simpa using hk0
                clear hdx HP HDX HRG hk0
                go_wp2_with fail
                go_roundg (gk - 1)
                case measure => omega
                case rel => exact ⟨k + 1, T, by omega, by omega, by go_num, HT4, HTJ, HR4⟩
              have HSK := Lib.hid (show xf = (j : Int) → xk = 0 from fun e => Classical.byContradiction fun h => hsk ⟨e, h⟩)
              by_cases hop : xk = 0 ∧ xn ≤ 100
              · obtain ⟨rfl, hxn⟩ := hop
                have hxi : (xn : Int) ≤ 100 := by omega
                have HO := Lib.hid (y_open HT4.out HDX.out (by omega))
                unfold DV at HO
                dsimp only at HO
                have HTJ2 := Lib.hid (open_keep (d' := ⟨e0, e1, e2, e3, ys, e5⟩) HTJ.out)
                have hne : low T ≠ some j := fun e => by have := (low_some e).2.1; rw [HTJ.out] at this; cases this
                have hres : ∃ a b : Int, lowV T = (a, b) ∧ (b = 0 → a ≠ (j : Int)) := by
                  unfold lowV
                  cases hl : low T with
                  | none => exact ⟨0, 24, rfl, fun e => absurd e (by decide)⟩
                  | some m => exact ⟨m, 0, rfl, fun _ e => hne (by rw [hl]; congr 1; omega)⟩
                obtain ⟨ra, rb, hra, hrb⟩ := hres
                rw [hra] at HO
                generalize openT T ⟨e0, e1, e2, e3, ys, e5⟩ = T' at *
                have q1 : (xf == (j : Int)) = true ∨ (xf == (j : Int)) = false := by cases (xf == (j : Int)) <;> simp
                have q2 : ((rb == 0) = true ∧ (ra == (j : Int)) = false) ∨ (rb == 0) = false := by
                  by_cases e : rb = 0
                  · left; exact ⟨by simpa using e, by simpa using hrb e⟩
                  · right; simpa using e
                clear hdx HP HDX hsk hne hra hrb HT4
                rcases q1 with q1 | q1
                all_goals
                  go_wp2_with (first | refine wpList_load_mid (by rfl) 30 (.tmp 91) (by rfl) G 2 (by rfl) _ _ HRG.out Try.underlying30 (by rfl) (by kernel_rfl) ?_)
                  refine HO.out.mono ?_
                  rintro e w8 ⟨rfl, h8, hs8⟩
                  have HT8 := Lib.hid h8
                  have HR8 := Lib.hid ((hs8 B rfl).trans HR4.out)
                  clear h8 hs8
                  rcases q2 with ⟨q2, q3⟩ | q2
                  all_goals
                    go_wp2_with fail
                    go_roundg (gk - 1)
                    case measure => omega
                    case rel => exact ⟨k + 1, T', by omega, by omega, by go_num, HT8, HTJ2, HR8⟩
              · have HTJ2 := Lib.hid (act_keep (n := xn) (d' := ⟨e0, e1, e2, e3, ys, e5⟩) HTJ.out HSK.out)
                generalize actT T xn xk xf ⟨e0, e1, e2, e3, ys, e5⟩ = T' at *
                have q1 : ((xf == (j : Int)) = true ∧ (xk == 0) = true ∧ (xk != 0) = false ∧ ¬ (xn : Int) ≤ 100) ∨ ((xf == (j : Int)) = false ∧ (((xk == 0) = true ∧ ¬ (xn : Int) ≤ 100) ∨ (xk == 0) = false)) := by
                  by_cases e1 : xf = (j : Int)
                  · have e2 := HSK.out e1
                    left
                    refine ⟨by simpa using e1, by simpa using e2, by simp [e2], fun e3 => hop ⟨e2, by omega⟩⟩
                  · right
                    refine ⟨by simpa using e1, ?_⟩
                    by_cases e2 : xk = 0
                    · left; exact ⟨by simpa using e2, fun e3 => hop ⟨e2, by omega⟩⟩
                    · right; simpa using e2
                clear hdx HDX hsk hop HT4 HRG HTJ
                rcases q1 with ⟨q1, q2, q3, q4⟩ | ⟨q1, ⟨q2, q3⟩ | q2⟩
                all_goals
                  go_wp2_with fail
                  refine HP.out.mono ?_
                  rintro e w8 ⟨⟨v, rfl⟩, h8, hs8⟩
                  have HT8 := Lib.hid h8
                  have HR8 := Lib.hid ((hs8 B rfl).trans HR4.out)
                  clear h8 hs8
                  go_wp2_with fail
                  go_roundg (gk - 1)
                  case measure => omega
                  case rel => exact ⟨k + 1, T', by omega, by omega, by go_num, HT8, HTJ2, HR8⟩
            · have hsplit : (k < n2 ∧ k = 120) ∨ ¬ k < n2 := by omega
              have HG := Lib.hid (y_get HT.out j)
              rw [show getV T (j : Int) = (⟨d0, d1, d2, d3, xs, d5⟩, 0) by unfold getV; rw [spot_nat hj, HTJ.out]] at HG
              unfold GetE DV at HG
              dsimp only at HG
              rw [← HND.out] at HG
              clear hgo HA2 HD2
              rcases hsplit with ⟨hkn, rfl⟩ | hkn
              all_goals
                go_wp2_with fail
                refine HG.out.mono ?_
                rintro e w9 ⟨A9, c9, rfl, hown, hb9⟩
                have HDX := Lib.hid (show DA w9 A9 n1 c9 ⟨d0, d1, d2, d3, xs, d5⟩ by rw [HND.out]; exact da_own (d := ⟨d0, d1, d2, d3, xs, d5⟩) hown)
                have HBB := Lib.hid (fun ob => below_step (below_step HT.out.bel hb9) (below_alloc w9 ob))
                have HBA := Lib.hid (fun ob => below_alloc w9 ob)
                have HR9 := Lib.hid ((hb9.block B (row_lt HR.out)).trans HR.out)
                obtain ⟨G, hG⟩ : ∃ G, w9.heap.size = G := ⟨_, rfl⟩
                have hlB : B < w9.heap.size := row_lt HR9.out
                have HROB := Lib.hid (fun ob => ((below_alloc w9 ob).block B hlB).trans HR9.out)
                have g0 : ∀ ob, (w9.alloc ob).cell? ⟨B, 0, none⟩ = some (.int .i64 d0) := fun ob => by rw [cell_row (HROB.out ob)]; rfl
                have g1 : ∀ ob, (w9.alloc ob).cell? ⟨B, 1, none⟩ = some (.int .i64 d1) := fun ob => by rw [cell_row (HROB.out ob)]; rfl
                have g2 : ∀ ob, (w9.alloc ob).cell? ⟨B, 2, none⟩ = some (.int .i64 d2) := fun ob => by rw [cell_row (HROB.out ob)]; rfl
                have g3 : ∀ ob, (w9.alloc ob).cell? ⟨B, 3, none⟩ = some (.bool d3) := fun ob => by rw [cell_row (HROB.out ob)]; rfl
                have g4 : ∀ ob, (w9.alloc ob).cell? ⟨B, 4, none⟩ = some (.slice A1 n1 c1) := fun ob => by rw [cell_row (HROB.out ob)]; rfl
                have g5 : ∀ ob, (w9.alloc ob).cell? ⟨B, 5, none⟩ = some (.int .i64 d5) := fun ob => by rw [cell_row (HROB.out ob)]; rfl
                have HY := Lib.hid (fun ob => same_yes (HDX.out.below (HBA.out ob)) ((HDA.out.below (below_step HT.out.bel hb9)).below (HBA.out ob)) (by omega))
                unfold DV YesE at HY
                dsimp only at HY
                clear hown hb9 HT HR HTJ HG HROB hG hlB
                go_wp2_with fail
                refine (HY.out _).mono ?_
                rintro e w10 ⟨rfl, hb10⟩
                have HF := Lib.hid (below_step (HBB.out _) hb10)
                clear hb10
                go_wp2_with fail
                go_ret
                exact ⟨rfl, HF.out⟩


set_option maxRecDepth 100000 in
theorem lifted (os : Os) (started : os.Started) (H : Type) (enc : TypeId × Value → H) :
    ReturnsInHanded {} Try.checked os 4 .any (Rows.descAloneSpec.pre6 enc Try.prog Try.f4 Rows.descAloneRow.domain false) (Rows.descAloneSpec.post enc Try.prog Try.f4 false true false false) := by
  refine returnsInHanded_of_change (C := Try.checked) own started (by kernel_rfl) Try.func4
    (ChangeSpec.witness6 (enc := enc) (C := Try.checked) false ⟨#[], #[.slice none 0 0, .agg #[.int .i64 0, .int .i64 0, .int .i64 0, .bool false, .slice none 0 0, .int .i64 0], .slice none 0 0], []⟩ 8 (by kernel_rfl) (by kernel_rfl) (by kernel_rfl) (by kernel_rfl)) ?_
  intro W base args ds gs before hval0 hW hcnd _
  have hval : ∀ (j : Nat) t v, Try.f4.params[j]? = some t → args[j]? = some v → Value.okWide Try.prog W .any base t v := hval0
  have hW' := hW
  obtain ⟨p, q, hA0, hV, rfl, hfz, hnd⟩ := hW
  have hA : DataW.TrodAll enc Try.prog W 0 (fun _ => true) true Try.f4.params.toList args.toList ds p := hA0
  rw [Try.params4] at hA hval
  obtain ⟨v0, vs0, d0, ds0, p0, q0, hargs, rfl, rfl, h0, r0⟩ := trodAll_cons hA
  obtain ⟨v1, vs1, d1, ds1, p1, q1, rfl, rfl, rfl, h1, r1⟩ := trodAll_cons r0
  obtain ⟨v2, vs2, d2, ds2, p2, q2, rfl, rfl, rfl, h2, r2⟩ := trodAll_cons r1
  obtain ⟨rfl, rfl, rfl⟩ := trodAll_nil r2
  obtain rfl : args = #[v0, v1, v2] := by cases args; simp_all
  obtain ⟨rfl, rfl⟩ := trodVars_none hV
  have hlt := fun x hx => hW'.lt x hx
  have t0 := h0
  obtain ⟨A0, n0, c0, x0, rfl, e0, s0⟩ := open_acts (hval 0 22 v0 rfl rfl) h0
  have t1 := h1
  obtain ⟨A1, n1, c1, x1, rfl, e1⟩ := open_dv (hval 1 30 v1 rfl rfl) h1
  have t2 := h2
  obtain ⟨A2, n2, c2, x2, rfl, e2, s2⟩ := open_acts (hval 2 22 v2 rfl rfl) h2
  clear hA0 hval0
  refine (walk A0 n0 c0 x0 A1 n1 c1 x1 A2 n2 c2 x2 W e0 s0 e1 e2 s2).mono fun e W' ⟨he, hg⟩ => ?_
  subst he
  exact ⟨_, rfl, law_post (pv := []) hW' (fun _ _ _ => (trodAll_cons_mk (shut_bool Try.underlying4 _) trodAll_mk0)) (fun sp hsp => (trodAll_cons_mk (arg_stays (by decide) t0 hg (by simp +contextual) hlt hsp laid) (trodAll_cons_mk (arg_stays (by decide) t1 hg (by simp +contextual) hlt hsp laid) (trodAll_cons_mk (arg_stays (by decide) t2 hg (by simp +contextual) hlt hsp laid) trodAll_mk0)))) (fun _ _ => rfl) (by simp)
    hg (ok_one (by kernel_rfl) rfl (okWide_bool_mk Try.underlying4 _))⟩

theorem over : Rows.descAloneRow.holds Try.pinned (OpenSpec.ofChange Rows.descAloneSpec) :=
  OpenClaim.holds_of_wide 4 Try.f4 rfl rfl rfl rfl rfl rfl rfl ⟨rfl, rfl, rfl, rfl, rfl⟩ rfl rfl rfl rfl rfl (by kernel_rfl) Try.func4 (by kernel_rfl)
    (of_decide_eq_true (by kernel_rfl)) (by unfold Func.isWrapper; first | (rw [if_pos (by decide +kernel)]; kernel_rfl) | (rw [if_neg (by decide +kernel)]; exact ⟨rfl, rfl⟩))
    (fun os started H enc _ => lifted os started H enc)

/-- The statement. -/
theorem proved : Rows.DescAloneSaid :=
  over
end Go.Proofs.Ytfbdhpbnmjacmaa.descAlone
