/- For every list of acts, every number and every descriptor the law DescSets returns true, and what is handed in reads as it did; there are no conditions. -/
import Derived.Test.YtfbdhpbnmjacmaaDx
import Derived.Deep.RegionWith
import Derived.Deep.QuietTactic
import Derived.BigQuiet
import Derived.ProofKit
import Derived.OpenShut
import Derived.ShutString
namespace Go.Proofs.Ytfbdhpbnmjacmaa.descSets
open Go.ChangeShapes Go.WideShapes Go.ChangeAt Go.RowKit
open Go.ChangeMaps (open_string shut_string)
open Go.Proofs.Ytfbdhpbnmjacmaa.ds
set_option linter.unusedVariables false

theorem own : ownKnob Try.prog.godebug = none := by kernel_rfl
theorem laid : laidOutB Try.prog = true := by kernel_rfl

set_option maxHeartbeats 8000000 in
set_option maxRecDepth 100000 in
theorem walk (A : Option Addr) (n c : Nat) (F : Nat → Act7) (fd : Int) (A1 : Option Addr) (n1 c1 : Nat) (d : De) (w : World) (k1 : n ≤ c ∧ c ≤ maxLen) (hF : Acts w w.heap.size A n F ∧ Ads w n F) (hfd : Wf fd) (hd : DA w A1 n1 c1 d) :
    Calls Try.prog 6 #[.slice A n c, .int .i64 fd, DV A1 n1 c1 d] w (AwakeE w) := by
  have hnm : n ≤ 9223372036854775807 := by have := k1.1; have := k1.2; unfold maxLen at this; omega
  have hnm1 : n1 ≤ 9223372036854775807 := by have := hd.cap.1; have := hd.cap.2; unfold maxLen at this; omega
  have hmm := @run_makeMap Try.prog
  have HA := Lib.hid hF.1
  have HD := Lib.hid hF.2
  have HDA := Lib.hid hd
  have HFD := Lib.hid hfd
  clear k1 hF hd hfd
  obtain ⟨B, hB⟩ : ∃ B, w.heap.size = B := ⟨_, rfl⟩
  have HB := Lib.hid hB
  obtain ⟨d0, d1, d2, d3, xs, d5⟩ := d
  unfold DV
  dsimp only
  obtain ⟨w1, hw1⟩ : ∃ w1, w.alloc (.cells #[.int .i64 d0, .int .i64 d1, .int .i64 d2, .bool d3, .slice A1 n1 c1, .int .i64 d5] 30) = w1 := ⟨_, rfl⟩
  have hr1 : w1.heap[B]? = some (.cells #[.int .i64 d0, .int .i64 d1, .int .i64 d2, .bool d3, .slice A1 n1 c1, .int .i64 d5] 30 (0, 0)) := by rw [← hw1, ← hB]; exact heap_alloc_new w _
  have HR1 := Lib.hid hr1
  have HB1 := Lib.hid (show Below w.heap.size w w1 by rw [← hw1]; exact below_alloc w _)
  have hs1 : w1.heap.size = B + 1 := by rw [← hw1, World.size_alloc, hB]
  clear hr1
  go_enter Try.func6, Try.ntmps6
  go_wp2_with fail
  refine (awake_any _).mono ?_
  rintro e w2 ⟨rfl, hb2⟩
  have HR2 := Lib.hid ((hb2.block B (by omega)).trans HR1.out)
  have HB2 := Lib.hid (below_step HB1.out hb2)
  have hs2 := hb2.size
  have HN := Lib.hid (y_new HB2.out)
  clear hb2 HR1 HB1 hw1
  go_wp2_with fail
  refine HN.out.mono ?_
  rintro e w3 ⟨rfl, h3, hb3⟩
  generalize hP : w2.heap.size = P at *
  have H2 := Lib.hid (h3.weaken (Y := fun b => b = B) (fun b hb => by subst hb; omega))
  have HR3 := Lib.hid ((hb3.block B (by omega)).trans HR2.out)
  have c4 : w3.cell? ⟨B, 4, none⟩ = some (.slice A1 n1 c1) := by rw [cell_row HR3.out]; rfl
  clear h3 hb3 HN HR2 HB2 hs2 hs1 hP
  by_cases hn1 : 100 < n1
  · have hni : (100 : Int) < (n1 : Int) := by omega
    clear hn1
    go_wp2_with fail
    go_ret
    exact ⟨rfl, H2.out.bel⟩
  have hni : ¬ (100 : Int) < (n1 : Int) := by omega
  have hn1k : n1 ≤ 1000 := by omega
  clear hn1
  go_wp2_with fail
  clear c4
  go_loopg [8] 120 (fun g s wr => ∃ (k : Nat) (T : Tb), g + k = 120 ∧ k ≤ n ∧ s = .int .i64 k ∧ Hid (TY w wr P (fun b => b = B) T) ∧ Hid (wr.heap[B]? = some (.cells #[.int .i64 d0, .int .i64 d1, .int .i64 d2, .bool d3, .slice A1 n1 c1, .int .i64 d5] 30 (0, 0))))
  case atStart => exact ⟨0, em, by omega, by omega, rfl, H2, HR3⟩
  case round =>
    clear H2
    obtain ⟨k, T, hgk, hk, rfl, HT, HR⟩ := hrel
    by_cases hgo : k < n ∧ k < 120
    · obtain ⟨hkn, hk2⟩ := hgo
      obtain ⟨b, off, rfl, hbl, f0, f1, f2, f3, f4, f5, f6, f7⟩ := (HA.out.below HT.out.bel) k hkn
      have HP := Lib.hid (play_any (k := (F k).kind) (fd := (F k).fd) HT.out ((HD.out.below HT.out.bel) k hkn))
      generalize F k = x at *
      obtain ⟨xk, xf, xA, xn, xc, d0, d1, d2, d3, xs, d5⟩ := x
      unfold AL at HP
      dsimp only at f0 f1 f2 f3 f4 f5 f6 f7 HP
      generalize actT T xn xk xf _ = T' at HP
      clear HT
      go_wp2_with fail
      refine HP.out.mono ?_
      rintro e w3 ⟨⟨v, rfl⟩, h3, hs3⟩
      have HT3 := Lib.hid h3
      have HR4 := Lib.hid ((hs3 B rfl).trans HR.out)
      clear h3 HP
      go_wp2_with fail
      go_roundg (gk - 1)
      case measure => omega
      case rel => exact ⟨k + 1, T', by omega, by omega, by go_num, HT3, HR4⟩
    · have hsplit : (k < n ∧ k = 120) ∨ ¬ k < n := by omega
      clear hgo HA HD
      rcases hsplit with ⟨hkn, rfl⟩ | hkn
      all_goals
        have HLB := Lib.hid (row_lt HR.out)
        obtain ⟨M, hM⟩ : ∃ M, wr.heap.size = M := ⟨_, rfl⟩
        have HM0 := Lib.hid (MapV.made wr)
        have HTM := Lib.hid ((HT.out.over (below_alloc wr (.map #[] 0))).weaken (Y := fun b => b = B ∨ (M ≤ b ∧ b < (wr.alloc (.map #[] 0)).heap.size)) (fun b hb => hb.elim .inl (fun h => .inr ⟨by omega, h.2⟩)))
        have HRM := Lib.hid (((below_alloc wr (.map #[] 0)).block B HLB.out).trans HR.out)
        have HAL := Lib.hid (y_all HTM.out)
        have hloM : w.heap.size ≤ M := by rw [← hM]; exact HT.out.bel.size
        have hBM : B < M := by rw [← hM]; exact HLB.out
        have hsM : (wr.alloc (.map #[] 0)).heap.size = M + 1 := by rw [World.size_alloc, hM]
        rw [hM] at HM0
        have HLL := Lib.hid (all_len T 32)
        have HND := Lib.hid (all_nodup T 32)
        have HMM := Lib.hid (fun q => all_mem (T := T) (n := 32) (k := q))
        have hlen32 := cnt_le T 32
        rw [← HLL.out] at hlen32
        generalize allT T 32 = L at *
        have HSM := Lib.hid hsM
        clear HT HR hsM
        go_wp2_with fail
        clear hM
        refine HAL.out.mono ?_
        rintro e w4 ⟨v4, rfl, hown, hb4⟩
        obtain ⟨A6, c6, rfl⟩ := own_slice hown
        have HCL := Lib.hid (own_ints hown)
        have HM4 := Lib.hid (HM0.out.of_block (hb4.block M HM0.out.lt))
        have HT4 := Lib.hid (((HTM.out.over hb4).weaken (Y := fun b => b = B ∨ (M ≤ b ∧ b < w4.heap.size)) (fun b hb => by
          rcases hb with h | ⟨h1, h2⟩
          · exact .inl (.inl h)
          · rcases Nat.lt_or_ge b (wr.alloc (.map #[] 0)).heap.size with h3 | h3
            · exact .inl (.inr ⟨h1, h3⟩)
            · exact .inr ⟨h3, h2⟩)))
        have HI4 := Lib.hid (show IntsAt w4 M A6 L from fun i k hk => by
          obtain ⟨g, h1, h2, h3, h4⟩ := HCL.out i k hk
          exact ⟨g, h1, by have := HSM.out; omega, h3, h4⟩)
        have HR4 := Lib.hid ((hb4.block B (row_lt HRM.out)).trans HRM.out)
        obtain ⟨N, hN⟩ : ∃ N, L.length = N := ⟨_, rfl⟩
        have HN := Lib.hid hN
        rw [hN] at hlen32 ⊢
        have HG4 := Lib.hid (GoodM.none w4 M M T)
        clear hown hb4 HM0 HTM HAL HCL hN HSM HRM HLB
        go_wp2_with fail
        go_loopg [50] N (fun g s wr => ∃ (i : Nat) (f : Int → Option Value), g + i = N ∧ i ≤ N ∧ s = .int .i64 i ∧ Hid (MapV wr M i f) ∧ Hid (GoodM wr M M T f (L.take i)) ∧ Hid (TY w wr P (fun b => b = B ∨ (M ≤ b ∧ b < wr.heap.size)) T) ∧ Hid (IntsAt wr M A6 L) ∧ Hid (wr.heap[B]? = some (.cells #[.int .i64 d0, .int .i64 d1, .int .i64 d2, .bool d3, .slice A1 n1 c1, .int .i64 d5] 30 (0, 0))))
        case atStart => exact ⟨0, _, by omega, by omega, rfl, HM4, (by rw [List.take_zero]; exact HG4), HT4, HI4, HR4⟩
        case round =>
          clear HM4 HT4 HI4 HR4 HG4
          obtain ⟨i, f, hgi, hi, rfl, HM, HG, HT, HI, HR⟩ := hrel
          by_cases hlt : i < N
          · obtain ⟨kk, hkk⟩ : ∃ kk, L[i]? = some kk := ⟨_, List.getElem?_eq_getElem (by rw [HN.out]; exact hlt)⟩
            obtain ⟨g6, rfl, hg6, hg7, cc⟩ := HI.out i kk hkk
            obtain ⟨hk32, hTk⟩ := HMM.out kk |>.1 (List.mem_of_getElem? hkk)
            obtain ⟨dk, hdk⟩ : ∃ dk, T kk = some dk := by
              cases h : T kk with
              | none => exact absurd h hTk
              | some dk => exact ⟨dk, rfl⟩
            have HGE := Lib.hid (y_get HT.out (kk : Int))
            rw [getV_in hdk hk32] at HGE
            unfold GetE at HGE
            dsimp only at HGE
            have HLE := Lib.hid (HT.out.le1000 hk32 hdk)
            have HDK := Lib.hid hdk
            have HNO := Lib.hid (HG.out.out (not_ahead HND.out hkk))
            have HTK := Lib.hid (take_one hkk)
            have HML := Lib.hid HM.out.lt
            clear hdk hTk hkk
            go_wp2_with fail
            refine HGE.out.mono ?_
            rintro e w5 ⟨A5, c5, rfl, hown5, hb5⟩
            obtain ⟨w6, hput, hm6, hg6'⟩ := (HM.out.of_block (hb5.block M HML.out)).put Try.underlying51 (by omega) (wf_small (a := (kk : Int)) (by omega) (by omega)) HNO.out (DV A5 dk.ns.length c5 dk)
            have ho6 := only_grown hg6'
            have HM6 := Lib.hid hm6
            have HG6 := Lib.hid (((HG.out.below hb5).put HDK.out (DI.of_own hown5 HML.out HML.out HLE.out)).keep (w' := w6) (fun b h1 _ h3 => ho6.block b h3 (by omega)))
            rw [← HTK.out] at HG6
            have HT6 := Lib.hid ((((HT.out.over hb5).weaken (Y := fun b => b = B ∨ (M ≤ b ∧ b < w5.heap.size)) (fun b hb => by
              rcases hb with h | ⟨h1, h2⟩
              · exact .inl (.inl h)
              · rcases Nat.lt_or_ge b wr.heap.size with h3 | h3
                · exact .inl (.inr ⟨h1, h3⟩)
                · exact .inr ⟨h3, h2⟩)).turn_over ho6 (fun b hb => ⟨.inr ⟨by omega, by have := hb5.size; have := HML.out; omega⟩, by omega⟩)).weaken (Y := fun b => b = B ∨ (M ≤ b ∧ b < w6.heap.size)) (fun b hb => by
              rcases hb with h | ⟨h1, h2⟩
              · exact .inl (.inl h)
              · rcases Nat.lt_or_ge b w5.heap.size with h3 | h3
                · exact .inl (.inr ⟨h1, h3⟩)
                · exact .inr ⟨h3, h2⟩))
            have HI6 := Lib.hid ((HI.out.keep hb5.size (fun b _ h => hb5.block b h)).keep (w' := w6) ho6.size (fun b h1 h2 => ho6.block b h2 (by omega)))
            have HR6 := Lib.hid (((ho6.block B (by have := hb5.size; have := row_lt HR.out; omega) (by omega)).trans (hb5.block B (row_lt HR.out))).trans HR.out)
            clear hown5 hb5 hm6 hg6' ho6 HM HG HT HI HR HGE
            go_wp2_with fail
            go_roundg (gk - 1)
            case measure => omega
            case rel => exact ⟨i + 1, _, by omega, by omega, by go_num, HM6, HG6, HT6, HI6, HR6⟩
          · have hiN : i = N := by omega
            have hge : ¬ ((i : Int) < (N : Int)) := by omega
            have HMV := Lib.hid (show MapV wr M N f by rw [← hiN]; exact HM.out)
            have HGD := Lib.hid (show GoodM wr M M T f L by
              have := HG.out
              rw [hiN, List.take_of_length_le (by rw [HN.out]; exact Nat.le_refl _)] at this
              exact this)
            have HRW := Lib.hid (show wr.rangeAt B 0 [.int .i64 d0, .int .i64 d1, .int .i64 d2, .bool d3, .slice A1 n1 c1, .int .i64 d5] from fun j v hv => by rw [Nat.zero_add, cell_row HR.out]; simpa using hv)
            have HST := Lib.hid (y_set HT.out (HDA.out.below HT.out.bel) hn1k fd)
            unfold DV at HST
            dsimp only at HST
            clear hlt hiN HM HG HI
            go_wp2_with (first | refine wpList_load_mid (by rfl) 30 (.tmp 5) (by rfl) B 0 (by rfl) _ _ HRW.out Try.underlying30 (by rfl) (by kernel_rfl) ?_)
            refine HST.out.mono ?_
            rintro e w6 ⟨rfl, h6, hs6⟩
            have hMr := HMV.out.lt
            have HMV6 := Lib.hid (HMV.out.of_block (hs6 M (.inr ⟨Nat.le_refl _, hMr⟩)))
            have HG6 := Lib.hid (HGD.out.keep (w' := w6) (fun b h1 _ h3 => hs6 b (.inr ⟨by omega, h3⟩)))
            have HR6 := Lib.hid ((hs6 B (.inl rfl)).trans HR.out)
            have HT6 := Lib.hid (h6.weaken (Y := fun b => b = B) (fun b h => .inl h))
            obtain ⟨⟨Ae, ne, ce, de, hgetd⟩, hsome⟩ := look_form HG6.out HMM.out fd
            have hlk := HMV6.out.lookOk Try.underlying51 (z := DV none 0 0 dz) (by kernel_rfl) HFD.out
            rw [hgetd, hsome] at hlk
            obtain ⟨f0, f1, f2, f3, fs, f5⟩ := de
            unfold DV at hlk
            dsimp only at hlk
            have HOT := Lib.hid (fun k dk (hT : T k = some dk) (hk : k < 32) => sets_other hT hk fd ⟨d0, d1, d2, d3, xs, d5⟩)
            have HND := Lib.hid (show n1 = xs.length from HDA.out.len)
            obtain ⟨r, hr⟩ : ∃ r, w6.heap.size + 1 = r := ⟨_, rfl⟩
            have hr0 : ∀ ob, (w6.alloc ob).heap.size = r := fun ob => by rw [World.size_alloc, hr]
            have HR0 := Lib.hid hr0
            have HMV7 := Lib.hid (fun ob => HMV6.out.of_block ((below_alloc w6 ob).block M HMV6.out.lt))
            have HG7 := Lib.hid (fun ob => (HG6.out.below (below_alloc w6 ob)).at_)
            have hBr : B < r := by have := row_lt HR6.out; omega
            have hwr : w.heap.size ≤ r := by omega
            have hEND := sets_end T fd ⟨d0, d1, d2, d3, xs, d5⟩
            generalize setT T fd ⟨d0, d1, d2, d3, xs, d5⟩ = T' at *
            clear h6 hs6 HT HR HMV HGD hgetd hsome HRW HST hMr hr0
            rcases hEND with ⟨ev, eg, ec⟩ | ⟨ev, eg, ec⟩
            · rw [ev] at hlk ⊢
              have HEG := Lib.hid eg
              have HEC := Lib.hid ec
              clear ev eg ec
              go_wp2_with (first | (at_range; refine list_rangeR _ rfl _ 51 30 rfl Try.underlying51 M N f rfl r (HR0.out _) (HMV7.out _) ?_; intro w8 cnt0 hrg0 hb8 hs8) | fail)
              go_frame
              have hs6r : w6.heap.size < r := by omega
              have HB8 := Lib.hid hb8
              have HR8 := Lib.hid ((hb8.block B (by rw [HR0.out]; exact hBr)).trans (((below_alloc w6 _).block B (row_lt HR6.out)).trans HR6.out))
              have HT8 := Lib.hid (((HT6.out.below (below_alloc w6 _)).over hb8).weaken (Y := fun b => b = B ∨ b = r) (fun b h => h.elim .inl (fun e => .inr (by rw [HR0.out]; omega))))
              have HG8 := Lib.hid ((HG7.out _).below hb8)
              rw [HR0.out] at HG8
              have HM8 := Lib.hid hrg0
              clear hrg0 hb8 hs8 HB8 hlk HG6 HMV6 HR6 HT6 HR0 HMV7 HG7 hs6r hr
              go_loopg [15] cnt0 (fun g _ wr => Hid (MapR wr M r N f g) ∧ Hid (GoodM wr M r T f L) ∧ Hid (TY w wr P (fun b => b = B ∨ b = r) T') ∧ Hid (wr.heap[B]? = some (.cells #[.int .i64 d0, .int .i64 d1, .int .i64 d2, .bool d3, .slice A1 n1 c1, .int .i64 d5] 30 (0, 0))))
              case atStart => exact ⟨HM8, HG8, HT8, HR8⟩
              case round =>
                clear HM8 HG8 HT8 HR8
                obtain ⟨HM, HG, HT, HR⟩ := hrel
                go_wp2_with (first | (at_next; refine list_nextR _ rfl _ rfl M r N gk f rfl HM.out ?_ ?_) | fail)
                · have HCL := y_close HT.out fd
                  rw [HEG.out] at HCL
                  have HXC := HEC.out
                  generalize closeT T' fd = T9 at HCL HXC
                  unfold DV at HCL
                  try unfold dz at HCL
                  dsimp only at HCL
                  refine HCL.mono ?_
                  rintro e w9 ⟨A9, c9, rfl, hown9, h9, hs9⟩
                  have HR9 := Lib.hid ((hs9 B (.inl rfl)).trans HR.out)
                  have HCL2 := Lib.hid (fun ob => y_close (h9.over (below_alloc w9 ob)) fd)
                  rw [HXC] at HCL2
                  have HDI9 := Lib.hid (DI.of_own (M := wr.heap.size - 1) (R := wr.heap.size - 1) (d := dz) hown9 (by have := HM.out.lt; omega) (by have := HM.out.lt; omega) (by simp [dz]))
                  have HB9 := Lib.hid (row_lt HR9.out)
                  obtain ⟨G9, hG9⟩ : ∃ G, w9.heap.size = G := ⟨_, rfl⟩
                  unfold DV dz at HCL2
                  dsimp only at HCL2
                  clear h9 hs9 hown9 HCL HXC
                  go_wp2_with fail
                  refine (HCL2.out _).mono ?_
                  rintro e w10 ⟨A10, c10, rfl, hown10, h10, hs10⟩
                  have HDI10 := Lib.hid ((HDI9.out.below (below_alloc w9 _)).keep (w' := w10) (fun b h1 _ h3 => hs10 b (by
                    rcases Nat.lt_or_ge b w9.heap.size with h4 | h4
                    · exact .inl (.inr ⟨by omega, h4⟩)
                    · exact .inr ⟨h4, h3⟩)))
                  have HR10 := Lib.hid (((hs10 B (.inl (.inl (.inl rfl)))).trans ((below_alloc w9 _).block B HB9.out)).trans HR9.out)
                  have HQ10 := Lib.hid ((hs10 w9.heap.size (.inr ⟨Nat.le_refl _, by rw [World.size_alloc]; omega⟩)).trans (heap_alloc_new w9 _))
                  rw [hG9] at HQ10
                  have HBE := Lib.hid h10.bel
                  have HBO := Lib.hid (fun ob => below_alloc w10 ob)
                  have HY1 := Lib.hid (fun ob => same_yes (((da_own (d := dz) hown10).below (HBO.out ob))) (da_zero _) (by simp [dz]))
                  unfold DV dz YesE at HY1
                  dsimp only at HY1
                  clear hown10 h10 hs10 hG9 HCL2
                  go_wp2_with fail
                  refine (HY1.out _).mono ?_
                  rintro e w11 ⟨rfl, hb11⟩
                  have HF := Lib.hid (below_step (below_step HBE.out (HBO.out _)) hb11)
                  clear hb11
                  go_wp2_with fail
                  go_ret
                  exact ⟨rfl, HF.out⟩
                · intro x v w1 cnt1 hfx hrg1 hlt hg1 hs1 hen
                  have ho1 := only_grown hg1
                  have HGN := Lib.hid (HG.out.keep (w' := w1) (fun b h1 hne h3 => ho1.block b h3 hne))
                  have HT1 := Lib.hid (HT.out.turn ho1 (fun b hb => ⟨.inr hb, by omega⟩))
                  have HR1 := Lib.hid ((ho1.block B (row_lt HR.out) (by omega)).trans HR.out)
                  have HRG := Lib.hid hrg1
                  have HLT := Lib.hid hlt
                  obtain ⟨k, Ak, ck, dk, hkL, rfl, hTk, rfl, hDI⟩ := HGN.out.all _ _ hfx
                  have hgv := HOT.out k _ hTk ((HMM.out k).1 hkL).1
                  have HDI := Lib.hid hDI
                  obtain ⟨p0, p1, p2, p3, ps, p5⟩ := dk
                  unfold DV at hen ⊢
                  dsimp only at hen ⊢
                  obtain ⟨G1, hG1⟩ : ∃ G, w1.heap.size = G := ⟨_, rfl⟩
                  have hN1 := heap_alloc_new w1 (.cells #[.int .i64 p0, .int .i64 p1, .int .i64 p2, .bool p3, .slice Ak ps.length ck, .int .i64 p5] 30)
                  rw [hG1] at hN1
                  have HN1 := Lib.hid hN1
                  clear hs1 hg1 ho1 hfx hkL hTk hDI hrg1 hlt HM HG HT HR hN1
                  by_cases hkf : (k : Int) = fd
                  · have q1 : ((k : Int) != fd) = false := by simpa using hkf
                    have q2 : ((k : Int) == fd) = true := by simpa using hkf
                    rw [if_pos hkf] at hgv
                    have HGE := Lib.hid (show ∀ ob, Calls Try.prog 18 #[Pq P, .int .i64 (k : Int)] (w1.alloc ob) (GetE (w1.alloc ob) (⟨d0, d1, d2, d3, xs, d5⟩, 0)) from fun ob => by
                      have := y_get (HT1.out.below (below_alloc w1 ob)) (k : Int)
                      rw [hgv] at this; exact this)
                    unfold GetE DV at HGE
                    dsimp only at HGE
                    clear hkf hgv
                    go_wp2_with fail
                    refine (HGE.out _).mono ?_
                    rintro e w3 ⟨A3, c3, rfl, hown3, hb3⟩
                    have HB3 := Lib.hid (below_step (below_alloc w1 _) hb3)
                    have HRO := Lib.hid (fun ob => ((below_step HB3.out (below_alloc w3 ob)).block B (row_lt HR1.out)).trans HR1.out)
                    have HBW := Lib.hid (fun ob => below_step HB3.out (below_alloc w3 ob))
                    have HY := Lib.hid (fun ob => same_yes ((da_own (d := ⟨d0, d1, d2, d3, xs, d5⟩) hown3).below (below_alloc w3 ob)) (HDA.out.below (below_step HT1.out.bel (HBW.out ob))) (by have := HND.out; simp; omega))
                    unfold DV YesE at HY
                    dsimp only at HY
                    have b0 : ∀ ob, (w3.alloc ob).cell? ⟨B, 0, none⟩ = some (.int .i64 d0) := fun ob => by rw [cell_row (HRO.out ob)]; rfl
                    have b1 : ∀ ob, (w3.alloc ob).cell? ⟨B, 1, none⟩ = some (.int .i64 d1) := fun ob => by rw [cell_row (HRO.out ob)]; rfl
                    have b2 : ∀ ob, (w3.alloc ob).cell? ⟨B, 2, none⟩ = some (.int .i64 d2) := fun ob => by rw [cell_row (HRO.out ob)]; rfl
                    have b3 : ∀ ob, (w3.alloc ob).cell? ⟨B, 3, none⟩ = some (.bool d3) := fun ob => by rw [cell_row (HRO.out ob)]; rfl
                    have b4 : ∀ ob, (w3.alloc ob).cell? ⟨B, 4, none⟩ = some (.slice A1 n1 c1) := fun ob => by rw [cell_row (HRO.out ob)]; rfl
                    have b5 : ∀ ob, (w3.alloc ob).cell? ⟨B, 5, none⟩ = some (.int .i64 d5) := fun ob => by rw [cell_row (HRO.out ob)]; rfl
                    clear hown3 hb3 HGE
                    go_wp2_with fail
                    refine (HY.out _).mono ?_
                    rintro e w5 ⟨rfl, hb5⟩
                    have HB5 := Lib.hid (below_step (HBW.out _) hb5)
                    clear hb5
                    go_wp2_with fail
                    go_roundg cnt1
                    case measure => exact HLT.out
                    case rel => exact ⟨Lib.hid (HRG.out.kept HB5.out), Lib.hid (HGN.out.below HB5.out), Lib.hid (HT1.out.below HB5.out), Lib.hid ((HB5.out.block B (row_lt HR1.out)).trans HR1.out)⟩
                  · have q1 : ((k : Int) != fd) = true := by simpa using hkf
                    have q2 : ((k : Int) == fd) = false := by simpa using hkf
                    rw [if_neg hkf] at hgv
                    have HGE := Lib.hid (show ∀ ob, Calls Try.prog 18 #[Pq P, .int .i64 (k : Int)] (w1.alloc ob) (GetE (w1.alloc ob) (⟨p0, p1, p2, p3, ps, p5⟩, 0)) from fun ob => by
                      have := y_get (HT1.out.below (below_alloc w1 ob)) (k : Int)
                      rw [hgv] at this; exact this)
                    unfold GetE DV at HGE
                    dsimp only at HGE
                    clear hkf hgv
                    go_wp2_with fail
                    refine (HGE.out _).mono ?_
                    rintro e w3 ⟨A3, c3, rfl, hown3, hb3⟩
                    have HB3 := Lib.hid (below_step (below_alloc w1 _) hb3)
                    have HBW := Lib.hid (fun ob => below_step HB3.out (below_alloc w3 ob))
                    have HRQ := Lib.hid (fun ob => (((below_step hb3 (below_alloc w3 ob)).block G1 (by rw [World.size_alloc]; omega)).trans HN1.out))
                    have HY := Lib.hid (fun ob => same_yes (HDI.out.da.below (HBW.out ob)) ((da_own (d := ⟨p0, p1, p2, p3, ps, p5⟩) hown3).below (below_alloc w3 ob)) (by have := HDI.out.le; simp at this ⊢; omega))
                    unfold DV YesE at HY
                    dsimp only at HY
                    have b0 : ∀ ob, (w3.alloc ob).cell? ⟨G1, 0, none⟩ = some (.int .i64 p0) := fun ob => by rw [cell_row (HRQ.out ob)]; rfl
                    have b1 : ∀ ob, (w3.alloc ob).cell? ⟨G1, 1, none⟩ = some (.int .i64 p1) := fun ob => by rw [cell_row (HRQ.out ob)]; rfl
                    have b2 : ∀ ob, (w3.alloc ob).cell? ⟨G1, 2, none⟩ = some (.int .i64 p2) := fun ob => by rw [cell_row (HRQ.out ob)]; rfl
                    have b3 : ∀ ob, (w3.alloc ob).cell? ⟨G1, 3, none⟩ = some (.bool p3) := fun ob => by rw [cell_row (HRQ.out ob)]; rfl
                    have b4 : ∀ ob, (w3.alloc ob).cell? ⟨G1, 4, none⟩ = some (.slice Ak ps.length ck) := fun ob => by rw [cell_row (HRQ.out ob)]; rfl
                    have b5 : ∀ ob, (w3.alloc ob).cell? ⟨G1, 5, none⟩ = some (.int .i64 p5) := fun ob => by rw [cell_row (HRQ.out ob)]; rfl
                    clear hown3 hb3 HGE
                    go_wp2_with fail
                    refine (HY.out _).mono ?_
                    rintro e w5 ⟨rfl, hb5⟩
                    have HB5 := Lib.hid (below_step (HBW.out _) hb5)
                    clear hb5
                    go_wp2_with fail
                    go_roundg cnt1
                    case measure => exact HLT.out
                    case rel => exact ⟨Lib.hid (HRG.out.kept HB5.out), Lib.hid (HGN.out.below HB5.out), Lib.hid (HT1.out.below HB5.out), Lib.hid ((HB5.out.block B (row_lt HR1.out)).trans HR1.out)⟩
            · rw [ev] at hlk ⊢
              have HEG := Lib.hid eg
              have HEC := Lib.hid ec
              clear ev eg ec
              go_wp2_with (first | (at_range; refine list_rangeR _ rfl _ 51 30 rfl Try.underlying51 M N f rfl r (HR0.out _) (HMV7.out _) ?_; intro w8 cnt0 hrg0 hb8 hs8) | fail)
              go_frame
              have hs6r : w6.heap.size < r := by omega
              have HB8 := Lib.hid hb8
              have HR8 := Lib.hid ((hb8.block B (by rw [HR0.out]; exact hBr)).trans (((below_alloc w6 _).block B (row_lt HR6.out)).trans HR6.out))
              have HT8 := Lib.hid (((HT6.out.below (below_alloc w6 _)).over hb8).weaken (Y := fun b => b = B ∨ b = r) (fun b h => h.elim .inl (fun e => .inr (by rw [HR0.out]; omega))))
              have HG8 := Lib.hid ((HG7.out _).below hb8)
              rw [HR0.out] at HG8
              have HM8 := Lib.hid hrg0
              clear hrg0 hb8 hs8 HB8 hlk HG6 HMV6 HR6 HT6 HR0 HMV7 HG7 hs6r hr
              go_loopg [15] cnt0 (fun g _ wr => Hid (MapR wr M r N f g) ∧ Hid (GoodM wr M r T f L) ∧ Hid (TY w wr P (fun b => b = B ∨ b = r) T') ∧ Hid (wr.heap[B]? = some (.cells #[.int .i64 d0, .int .i64 d1, .int .i64 d2, .bool d3, .slice A1 n1 c1, .int .i64 d5] 30 (0, 0))))
              case atStart => exact ⟨HM8, HG8, HT8, HR8⟩
              case round =>
                clear HM8 HG8 HT8 HR8
                obtain ⟨HM, HG, HT, HR⟩ := hrel
                go_wp2_with (first | (at_next; refine list_nextR _ rfl _ rfl M r N gk f rfl HM.out ?_ ?_) | fail)
                · have HCL := y_close HT.out fd
                  rw [HEG.out] at HCL
                  have HXC := HEC.out
                  generalize closeT T' fd = T9 at HCL HXC
                  unfold DV at HCL
                  try unfold dz at HCL
                  dsimp only at HCL
                  refine HCL.mono ?_
                  rintro e w9 ⟨A9, c9, rfl, hown9, h9, hs9⟩
                  have HR9 := Lib.hid ((hs9 B (.inl rfl)).trans HR.out)
                  have HCL2 := Lib.hid (fun ob => y_close (h9.over (below_alloc w9 ob)) fd)
                  rw [HXC] at HCL2
                  have HDI9 := Lib.hid (DI.of_own (M := wr.heap.size - 1) (R := wr.heap.size - 1) (d := ⟨d0, d1, d2, d3, xs, d5⟩) hown9 (by have := HM.out.lt; omega) (by have := HM.out.lt; omega) (by have := HND.out; simp; omega))
                  have HB9 := Lib.hid (row_lt HR9.out)
                  obtain ⟨G9, hG9⟩ : ∃ G, w9.heap.size = G := ⟨_, rfl⟩
                  unfold DV dz at HCL2
                  dsimp only at HCL2
                  clear h9 hs9 hown9 HCL HXC
                  go_wp2_with fail
                  refine (HCL2.out _).mono ?_
                  rintro e w10 ⟨A10, c10, rfl, hown10, h10, hs10⟩
                  have HDI10 := Lib.hid ((HDI9.out.below (below_alloc w9 _)).keep (w' := w10) (fun b h1 _ h3 => hs10 b (by
                    rcases Nat.lt_or_ge b w9.heap.size with h4 | h4
                    · exact .inl (.inr ⟨by omega, h4⟩)
                    · exact .inr ⟨h4, h3⟩)))
                  have HR10 := Lib.hid (((hs10 B (.inl (.inl (.inl rfl)))).trans ((below_alloc w9 _).block B HB9.out)).trans HR9.out)
                  have HQ10 := Lib.hid ((hs10 w9.heap.size (.inr ⟨Nat.le_refl _, by rw [World.size_alloc]; omega⟩)).trans (heap_alloc_new w9 _))
                  rw [hG9] at HQ10
                  have HBE := Lib.hid h10.bel
                  have HBO := Lib.hid (fun ob => below_alloc w10 ob)
                  have HY1 := Lib.hid (fun ob => same_yes (((da_own (d := dz) hown10).below (HBO.out ob))) (da_zero _) (by simp [dz]))
                  unfold DV dz YesE at HY1
                  dsimp only at HY1
                  clear hown10 h10 hs10 hG9 HCL2
                  go_wp2_with fail
                  refine (HY1.out _).mono ?_
                  rintro e w11 ⟨rfl, hb11⟩
                  have HL11 := Lib.hid (below_step (HBO.out _) hb11)
                  have HRB := Lib.hid ((HL11.out.block B (row_lt HR10.out)).trans HR10.out)
                  have HRQ := Lib.hid ((HL11.out.block G9 (row_lt HQ10.out)).trans HQ10.out)
                  have HF11 := Lib.hid (below_step HBE.out HL11.out)
                  have HY2 := Lib.hid (same_yes (HDI10.out.da.below HL11.out) (HDA.out.below HF11.out) (by have := HND.out; simp; omega))
                  unfold DV YesE at HY2
                  dsimp only at HY2
                  have b0 : w11.cell? ⟨B, 0, none⟩ = some (.int .i64 d0) := by rw [cell_row HRB.out]; rfl
                  have b1 : w11.cell? ⟨B, 1, none⟩ = some (.int .i64 d1) := by rw [cell_row HRB.out]; rfl
                  have b2 : w11.cell? ⟨B, 2, none⟩ = some (.int .i64 d2) := by rw [cell_row HRB.out]; rfl
                  have b3 : w11.cell? ⟨B, 3, none⟩ = some (.bool d3) := by rw [cell_row HRB.out]; rfl
                  have b4 : w11.cell? ⟨B, 4, none⟩ = some (.slice A1 n1 c1) := by rw [cell_row HRB.out]; rfl
                  have b5 : w11.cell? ⟨B, 5, none⟩ = some (.int .i64 d5) := by rw [cell_row HRB.out]; rfl
                  have t0 : w11.cell? ⟨G9, 0, none⟩ = some (.int .i64 d0) := by rw [cell_row HRQ.out]; rfl
                  have t1 : w11.cell? ⟨G9, 1, none⟩ = some (.int .i64 d1) := by rw [cell_row HRQ.out]; rfl
                  have t2 : w11.cell? ⟨G9, 2, none⟩ = some (.int .i64 d2) := by rw [cell_row HRQ.out]; rfl
                  have t3 : w11.cell? ⟨G9, 3, none⟩ = some (.bool d3) := by rw [cell_row HRQ.out]; rfl
                  have t4 : w11.cell? ⟨G9, 4, none⟩ = some (.slice A9 xs.length c9) := by rw [cell_row HRQ.out]; rfl
                  have t5 : w11.cell? ⟨G9, 5, none⟩ = some (.int .i64 d5) := by rw [cell_row HRQ.out]; rfl
                  clear hb11
                  go_wp2_with fail
                  refine HY2.out.mono ?_
                  rintro e w12 ⟨rfl, hb12⟩
                  have HF := Lib.hid (below_step HF11.out hb12)
                  clear hb12
                  go_wp2_with fail
                  go_ret
                  exact ⟨rfl, HF.out⟩
                · intro x v w1 cnt1 hfx hrg1 hlt hg1 hs1 hen
                  have ho1 := only_grown hg1
                  have HGN := Lib.hid (HG.out.keep (w' := w1) (fun b h1 hne h3 => ho1.block b h3 hne))
                  have HT1 := Lib.hid (HT.out.turn ho1 (fun b hb => ⟨.inr hb, by omega⟩))
                  have HR1 := Lib.hid ((ho1.block B (row_lt HR.out) (by omega)).trans HR.out)
                  have HRG := Lib.hid hrg1
                  have HLT := Lib.hid hlt
                  obtain ⟨k, Ak, ck, dk, hkL, rfl, hTk, rfl, hDI⟩ := HGN.out.all _ _ hfx
                  have hgv := HOT.out k _ hTk ((HMM.out k).1 hkL).1
                  have HDI := Lib.hid hDI
                  obtain ⟨p0, p1, p2, p3, ps, p5⟩ := dk
                  unfold DV at hen ⊢
                  dsimp only at hen ⊢
                  obtain ⟨G1, hG1⟩ : ∃ G, w1.heap.size = G := ⟨_, rfl⟩
                  have hN1 := heap_alloc_new w1 (.cells #[.int .i64 p0, .int .i64 p1, .int .i64 p2, .bool p3, .slice Ak ps.length ck, .int .i64 p5] 30)
                  rw [hG1] at hN1
                  have HN1 := Lib.hid hN1
                  clear hs1 hg1 ho1 hfx hkL hTk hDI hrg1 hlt HM HG HT HR hN1
                  by_cases hkf : (k : Int) = fd
                  · have q1 : ((k : Int) != fd) = false := by simpa using hkf
                    have q2 : ((k : Int) == fd) = true := by simpa using hkf
                    rw [if_pos hkf] at hgv
                    have HGE := Lib.hid (show ∀ ob, Calls Try.prog 18 #[Pq P, .int .i64 (k : Int)] (w1.alloc ob) (GetE (w1.alloc ob) (⟨d0, d1, d2, d3, xs, d5⟩, 0)) from fun ob => by
                      have := y_get (HT1.out.below (below_alloc w1 ob)) (k : Int)
                      rw [hgv] at this; exact this)
                    unfold GetE DV at HGE
                    dsimp only at HGE
                    clear hkf hgv
                    go_wp2_with fail
                    refine (HGE.out _).mono ?_
                    rintro e w3 ⟨A3, c3, rfl, hown3, hb3⟩
                    have HB3 := Lib.hid (below_step (below_alloc w1 _) hb3)
                    have HRO := Lib.hid (fun ob => ((below_step HB3.out (below_alloc w3 ob)).block B (row_lt HR1.out)).trans HR1.out)
                    have HBW := Lib.hid (fun ob => below_step HB3.out (below_alloc w3 ob))
                    have HY := Lib.hid (fun ob => same_yes ((da_own (d := ⟨d0, d1, d2, d3, xs, d5⟩) hown3).below (below_alloc w3 ob)) (HDA.out.below (below_step HT1.out.bel (HBW.out ob))) (by have := HND.out; simp; omega))
                    unfold DV YesE at HY
                    dsimp only at HY
                    have b0 : ∀ ob, (w3.alloc ob).cell? ⟨B, 0, none⟩ = some (.int .i64 d0) := fun ob => by rw [cell_row (HRO.out ob)]; rfl
                    have b1 : ∀ ob, (w3.alloc ob).cell? ⟨B, 1, none⟩ = some (.int .i64 d1) := fun ob => by rw [cell_row (HRO.out ob)]; rfl
                    have b2 : ∀ ob, (w3.alloc ob).cell? ⟨B, 2, none⟩ = some (.int .i64 d2) := fun ob => by rw [cell_row (HRO.out ob)]; rfl
                    have b3 : ∀ ob, (w3.alloc ob).cell? ⟨B, 3, none⟩ = some (.bool d3) := fun ob => by rw [cell_row (HRO.out ob)]; rfl
                    have b4 : ∀ ob, (w3.alloc ob).cell? ⟨B, 4, none⟩ = some (.slice A1 n1 c1) := fun ob => by rw [cell_row (HRO.out ob)]; rfl
                    have b5 : ∀ ob, (w3.alloc ob).cell? ⟨B, 5, none⟩ = some (.int .i64 d5) := fun ob => by rw [cell_row (HRO.out ob)]; rfl
                    clear hown3 hb3 HGE
                    go_wp2_with fail
                    refine (HY.out _).mono ?_
                    rintro e w5 ⟨rfl, hb5⟩
                    have HB5 := Lib.hid (below_step (HBW.out _) hb5)
                    clear hb5
                    go_wp2_with fail
                    go_roundg cnt1
                    case measure => exact HLT.out
                    case rel => exact ⟨Lib.hid (HRG.out.kept HB5.out), Lib.hid (HGN.out.below HB5.out), Lib.hid (HT1.out.below HB5.out), Lib.hid ((HB5.out.block B (row_lt HR1.out)).trans HR1.out)⟩
                  · have q1 : ((k : Int) != fd) = true := by simpa using hkf
                    have q2 : ((k : Int) == fd) = false := by simpa using hkf
                    rw [if_neg hkf] at hgv
                    have HGE := Lib.hid (show ∀ ob, Calls Try.prog 18 #[Pq P, .int .i64 (k : Int)] (w1.alloc ob) (GetE (w1.alloc ob) (⟨p0, p1, p2, p3, ps, p5⟩, 0)) from fun ob => by
                      have := y_get (HT1.out.below (below_alloc w1 ob)) (k : Int)
                      rw [hgv] at this; exact this)
                    unfold GetE DV at HGE
                    dsimp only at HGE
                    clear hkf hgv
                    go_wp2_with fail
                    refine (HGE.out _).mono ?_
                    rintro e w3 ⟨A3, c3, rfl, hown3, hb3⟩
                    have HB3 := Lib.hid (below_step (below_alloc w1 _) hb3)
                    have HBW := Lib.hid (fun ob => below_step HB3.out (below_alloc w3 ob))
                    have HRQ := Lib.hid (fun ob => (((below_step hb3 (below_alloc w3 ob)).block G1 (by rw [World.size_alloc]; omega)).trans HN1.out))
                    have HY := Lib.hid (fun ob => same_yes (HDI.out.da.below (HBW.out ob)) ((da_own (d := ⟨p0, p1, p2, p3, ps, p5⟩) hown3).below (below_alloc w3 ob)) (by have := HDI.out.le; simp at this ⊢; omega))
                    unfold DV YesE at HY
                    dsimp only at HY
                    have b0 : ∀ ob, (w3.alloc ob).cell? ⟨G1, 0, none⟩ = some (.int .i64 p0) := fun ob => by rw [cell_row (HRQ.out ob)]; rfl
                    have b1 : ∀ ob, (w3.alloc ob).cell? ⟨G1, 1, none⟩ = some (.int .i64 p1) := fun ob => by rw [cell_row (HRQ.out ob)]; rfl
                    have b2 : ∀ ob, (w3.alloc ob).cell? ⟨G1, 2, none⟩ = some (.int .i64 p2) := fun ob => by rw [cell_row (HRQ.out ob)]; rfl
                    have b3 : ∀ ob, (w3.alloc ob).cell? ⟨G1, 3, none⟩ = some (.bool p3) := fun ob => by rw [cell_row (HRQ.out ob)]; rfl
                    have b4 : ∀ ob, (w3.alloc ob).cell? ⟨G1, 4, none⟩ = some (.slice Ak ps.length ck) := fun ob => by rw [cell_row (HRQ.out ob)]; rfl
                    have b5 : ∀ ob, (w3.alloc ob).cell? ⟨G1, 5, none⟩ = some (.int .i64 p5) := fun ob => by rw [cell_row (HRQ.out ob)]; rfl
                    clear hown3 hb3 HGE
                    go_wp2_with fail
                    refine (HY.out _).mono ?_
                    rintro e w5 ⟨rfl, hb5⟩
                    have HB5 := Lib.hid (below_step (HBW.out _) hb5)
                    clear hb5
                    go_wp2_with fail
                    go_roundg cnt1
                    case measure => exact HLT.out
                    case rel => exact ⟨Lib.hid (HRG.out.kept HB5.out), Lib.hid (HGN.out.below HB5.out), Lib.hid (HT1.out.below HB5.out), Lib.hid ((HB5.out.block B (row_lt HR1.out)).trans HR1.out)⟩



set_option maxRecDepth 100000 in
theorem lifted (os : Os) (started : os.Started) (H : Type) (enc : TypeId × Value → H) :
    ReturnsInHanded {} Try.checked os 6 .any (Rows.descSetsSpec.pre6 enc Try.prog Try.f6 Rows.descSetsRow.domain false) (Rows.descSetsSpec.post enc Try.prog Try.f6 false true false false) := by
  refine returnsInHanded_of_change (C := Try.checked) own started (by kernel_rfl) Try.func6
    (ChangeSpec.witness6 (enc := enc) (C := Try.checked) false ⟨#[], #[.slice none 0 0, .int .i64 0, .agg #[.int .i64 0, .int .i64 0, .int .i64 0, .bool false, .slice none 0 0, .int .i64 0]], []⟩ 8 (by kernel_rfl) (by kernel_rfl) (by kernel_rfl) (by kernel_rfl)) ?_
  intro W base args ds gs before hval0 hW hcnd _
  have hval : ∀ (j : Nat) t v, Try.f6.params[j]? = some t → args[j]? = some v → Value.okWide Try.prog W .any base t v := hval0
  have hW' := hW
  obtain ⟨p, q, hA0, hV, rfl, hfz, hnd⟩ := hW
  have hA : DataW.TrodAll enc Try.prog W 0 (fun _ => true) true Try.f6.params.toList args.toList ds p := hA0
  rw [Try.params6] at hA hval
  obtain ⟨v0, vs0, d0, ds0, p0, q0, hargs, rfl, rfl, h0, r0⟩ := trodAll_cons hA
  obtain ⟨v1, vs1, d1, ds1, p1, q1, rfl, rfl, rfl, h1, r1⟩ := trodAll_cons r0
  obtain ⟨v2, vs2, d2, ds2, p2, q2, rfl, rfl, rfl, h2, r2⟩ := trodAll_cons r1
  obtain ⟨rfl, rfl, rfl⟩ := trodAll_nil r2
  obtain rfl : args = #[v0, v1, v2] := by cases args; simp_all
  obtain ⟨rfl, rfl⟩ := trodVars_none hV
  have hlt := fun x hx => hW'.lt x hx
  have t0 := h0
  obtain ⟨A0, n0, c0, x0, rfl, e0, s0⟩ := open_acts (hval 0 22 v0 rfl rfl) h0
  obtain ⟨a1, rfl, rfl, rfl, w1⟩ := open_int Try.underlying3 (hval 1 3 v1 rfl rfl) h1
  have t2 := h2
  obtain ⟨A2, n2, c2, x2, rfl, e2⟩ := open_dv (hval 2 30 v2 rfl rfl) h2
  clear hA0 hval0
  refine (walk A0 n0 c0 x0 a1 A2 n2 c2 x2 W e0 s0 w1 e2).mono fun e W' ⟨he, hg⟩ => ?_
  subst he
  exact ⟨_, rfl, law_post (pv := []) hW' (fun _ _ _ => (trodAll_cons_mk (shut_bool Try.underlying4 _) trodAll_mk0)) (fun sp hsp => (trodAll_cons_mk (arg_stays (by decide) t0 hg (by simp +contextual) hlt hsp laid) (trodAll_cons_mk (shut_int Try.underlying3 w1) (trodAll_cons_mk (arg_stays (by decide) t2 hg (by simp +contextual) hlt hsp laid) trodAll_mk0)))) (fun _ _ => rfl) (by simp)
    hg (ok_one (by kernel_rfl) rfl (okWide_bool_mk Try.underlying4 _))⟩

theorem over : Rows.descSetsRow.holds Try.pinned (OpenSpec.ofChange Rows.descSetsSpec) :=
  OpenClaim.holds_of_wide 6 Try.f6 rfl rfl rfl rfl rfl rfl rfl ⟨rfl, rfl, rfl, rfl, rfl⟩ rfl rfl rfl rfl rfl (by kernel_rfl) Try.func6 (by kernel_rfl)
    (of_decide_eq_true (by kernel_rfl)) (by unfold Func.isWrapper; first | (rw [if_pos (by decide +kernel)]; kernel_rfl) | (rw [if_neg (by decide +kernel)]; exact ⟨rfl, rfl⟩))
    (fun os started H enc _ => lifted os started H enc)

/-- The statement. -/
theorem proved : Rows.DescSetsSaid :=
  over
end Go.Proofs.Ytfbdhpbnmjacmaa.descSets
