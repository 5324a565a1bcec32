/- For every list of acts, every node and every name the law MergeNames returns true, and what is handed in reads as it did; there are no conditions. -/
import Derived.Test.YtkbdmjcdhkdanaaGreatRows
import Derived.Test.YtkbdmjcdhkdanaaGreatZ37
import Derived.Deep.RegionWith
import Derived.Deep.LoopGhost
import Derived.StillTailTactics
import Derived.Deep.QuietTactic
import Derived.BigQuiet
import Derived.ProofKit
import Derived.OpenShut
import Derived.ShutString
import Derived.SizedLaws
namespace Go.Proofs.YtkbdmjcdhkdanaaGreat.mergeNames
open Go.ChangeShapes Go.WideShapes Go.ChangeAt Go.RowKit
open Go.ChangeMaps (open_string shut_string)
open Go.Proofs.YtkbdmjcdhkdanaaGreat.mg
set_option linter.unusedVariables false
set_option linter.unusedSimpArgs false

theorem own : ownKnob Tryz.prog.godebug = none := by kernel_rfl
theorem laid : laidOutB Tryz.prog = true := by kernel_rfl

open Go.Proofs.YtkbdmjcdhkdanaaGreat.br (BS Ino Inv fresh)
open Go.Proofs.YtkbdmjcdhkdanaaGreat.cb (BrX RetW RetI No Act7 Acts Bt BuildE build_any)
open Go.Proofs.YtkbdmjcdhkdanaaGreat.bl (Pq Only)
theorem stat_dir {U L : BS} {n : Nd} (h : lstV U L n = 0) (c : Int) : (statN U L n c).1.2.1 = c ∧ (statN U L n c).2 = 0 := by
  have hk : kindV U L n = 2 := by rcases lst_cases U L n with ⟨a, _⟩ | ⟨_, a⟩ | ⟨a, _⟩; omega; exact a; omega
  unfold statN
  rw [if_neg (by omega), if_pos hk]
  refine ⟨rfl, ?_⟩
  dsimp only
  have key : ∀ (S : BS) (i : Int), S.kindOf i ≠ 0 → (S.stat i).2 = 0 := fun S i hz => by
    unfold br.BS.stat
    unfold br.BS.kindOf at hz
    split
    · rfl
    · rename_i hi; rw [if_neg hi] at hz; exact absurd rfl hz
  unfold kindV at hk
  by_cases h1 : n.1 ≠ 0
  · simp only [if_pos h1] at hk ⊢; split at hk; cases hk; exact key _ _ (by omega)
  · simp only [if_neg h1] at hk ⊢; split at hk; cases hk; exact key _ _ (by omega)
set_option maxRecDepth 100000 in
set_option maxHeartbeats 8000000 in
theorem walk (A : Option Addr) (n c : Nat) (F : Nat → Act7) (nd : Nd) (s : ByteArray) (w : World) (k1 : n ≤ c ∧ c ≤ maxLen) (hF : Acts w w.heap.size A n F) (ws : s.size ≤ 140737488351232) :
    Calls Tryz.prog 4 #[.slice A n c, Nv nd, .string s] w (AwakeE w) := by
  have hnm : n ≤ maxLen := Nat.le_trans k1.1 k1.2
  obtain ⟨n1, n2⟩ := nd
  obtain ⟨w0, hw0⟩ : ∃ w0, w.alloc (.cells #[.int .i64 n1, .int .i64 n2] 24) = w0 := ⟨_, rfl⟩
  have HB0 := Lib.hid (show Below w.heap.size w w0 by rw [← hw0]; exact bel_alloc _ _)
  have HN0 := Lib.hid (show Nb w0 w.heap.size (n1, n2) by rw [← hw0]; exact Nb.new w n1 n2)
  have HBD := Lib.hid (fun w1 (hb : Below w0.heap.size w0 w1) => build_any A n c F w0 w1 hnm (acts_up (hF.below HB0.out) HB0.out.size) hb)
  obtain ⟨g0, hg0⟩ : ∃ g, w.heap.size = g := ⟨_, rfl⟩
  rw [hg0] at HN0
  clear k1 hF hnm
  go_enter Tryz.func4, Tryz.ntmps4
  go_wp2_with fail
  refine (awake_any _).mono ?_
  rintro _ w1 ⟨rfl, hb1⟩
  have HB1 := Lib.hid (HBD.out _ hb1)
  clear hb1 HBD hw0
  go_wp2_with fail
  refine HB1.out.mono ?_
  rintro _ w2 h2
  clear HB1
  rcases h2 with ⟨v, rfl, h2⟩ | ⟨G, p, U, L, rfl, h2⟩
  · have HE := Lib.hid (bel_step HB0.out h2)
    clear h2
    go_wp2_with fail
    go_ret
    exact ⟨rfl, HE.out⟩
  have H2 := Lib.hid h2
  clear h2
  obtain ⟨-, c0, c1, -, -⟩ := H2.out
  have HN2 := Lib.hid (HN0.out.below H2.out.q.bel)
  go_wp2_with fail
  go_region_held3 (fun w' => w'.cell? ⟨G, 0, none⟩ = some (Pq p.P1) ∧ w'.cell? ⟨G, 1, none⟩ = some (Pq p.P2))
    (first | exact ⟨c0, c1⟩ | exact S8 | assumption | go_keep)
    (first | (go_at_call 13; ((with_reducible refine (Bt.new (Bt.below H2.out (Below.refl w2.heap.size w2).drew) 1 1).mono ?_); rintro _ wv ⟨V, rfl, hv3, hb3⟩; have HS3 := Lib.hid ((Below.refl w2.heap.size w2).drew.trans hb3); have HV := Lib.hid hv3; have HT := Lib.hid (Bt.below H2.out HS3.out); have HNv := Lib.hid (HN2.out.below HS3.out); have S8 := And.intro HT.out.c0 HT.out.c1)))
  all_goals
    clear c0 c1 S8 hv3 hb3 HS3 H2 HN0 HN2
    have HBv := Lib.hid (show Below w.heap.size w wv from bel_step HB0.out HT.out.q.bel)
    have HI := Lib.hid (And.intro (Bt.good1 HT.out) (Bt.good2 HT.out))
    have HTX := Lib.hid (fun W (hb : Below wv.heap.size wv W) => Bt.below HT.out hb)
    have HVX := Lib.hid (fun W (hb : Below wv.heap.size wv W) => HV.out.below hb)
    have HR0 := Lib.hid (Below.refl wv.heap.size wv)
    obtain ⟨le, hle⟩ : ∃ le, lstV U L (n1, n2) = le := ⟨_, rfl⟩
    have HLE := Lib.hid (show le ≠ 0 → ∀ x, getV U L (n1, n2) x = ((0, 0), le) from fun e x => by rw [← hle] at e ⊢; exact getV_lst e)
    have HNE := Lib.hid (show le ≠ 0 → ∀ l, AllV U L (n1, n2) l → l = [] from fun e l h => by rw [← hle] at e; exact h.nil_of e)
    have HAL := Lib.hid (fun W (hb : Below wv.heap.size wv W) => all_any (HVX.out W hb) HI.out.1 HI.out.2 (n1, n2))
    have HST := Lib.hid (fun W (hb : Below wv.heap.size wv W) => stat_any (HVX.out W hb) HI.out.1 HI.out.2 (n1, n2))
    have HSD := Lib.hid (show le = 0 → ∀ c, (statN U L (n1, n2) c).1.2.1 = c ∧ (statN U L (n1, n2) c).2 = 0 from fun e => by rw [← hle] at e; exact stat_dir e)
    unfold AllE at HAL
    unfold StatE at HST
    rw [hle] at HAL
    clear hle
    have HG := Lib.hid (fun x W (hb : Below wv.heap.size wv W) => get_any (HVX.out W hb) (n1, n2) x)
    unfold RetW at HG
    obtain ⟨m0, m1⟩ := HNv.out
    dsimp only at m0 m1
    go_wp2_with fail
    refine (HAL.out _ HR0.out).mono ?_
    rintro _ w9 ⟨A', c', l, rfl, hal, hnr, hl1, hl2, hl3, hb9⟩
    have HR9 := Lib.hid (bel_step HR0.out hb9)
    have HAV := Lib.hid hal
    have HNR := Lib.hid hnr.ns
    have HN9 := Lib.hid (HNv.out.below hb9)
    clear hal hnr hb9 HAL m0 m1
    obtain ⟨m, hm⟩ : ∃ m, l.length = m := ⟨_, rfl⟩
    have HMM := Lib.hid hm
    rw [hm] at hl1 hl3
    obtain ⟨m0, m1⟩ := HN9.out
    dsimp only at m0 m1
    obtain ⟨y, hy⟩ : ∃ y, getV U L (n1, n2) s = y := ⟨_, rfl⟩
    have HGS := Lib.hid (fun W (hb : Below wv.heap.size wv W) => HG.out s W hb)
    have HMS := Lib.hid (HAV.out.mem s)
    have HYE := Lib.hid (show le ≠ 0 → y = ((0, 0), le) from fun e => by rw [← hy]; exact HLE.out e s)
    rw [hy] at HGS HMS
    clear hy
    obtain ⟨⟨x1, x2⟩, f⟩ := y
    dsimp only at HGS HMS HYE
    have hcm : c' ≤ maxLen := hl2
    rw [hm]
    go_wp2_with fail
    refine (HGS.out _ HR9.out).mono ?_
    rintro _ w10 ⟨rfl, hb10⟩
    have HR10 := Lib.hid (bel_step HR9.out hb10)
    have HNR10 := Lib.hid (HNR.out.below hb10)
    have HN10 := Lib.hid (HN9.out.below hb10)
    clear hb10 HGS m0 m1 HNR HN9
    obtain ⟨w11, hw11⟩ : ∃ w, w10.alloc (.cells #[.int .i64 x1, .int .i64 x2] 24) = w := ⟨_, rfl⟩
    have hb11 : Below w10.heap.size w10 w11 := by rw [← hw11]; exact bel_alloc _ _
    have HR11 := Lib.hid (bel_step HR10.out hb11)
    have HNR11 := Lib.hid (HNR10.out.below hb11)
    have HN11 := Lib.hid (HN10.out.below hb11)
    have HFE := Lib.hid (bel_step HBv.out HR11.out)
    obtain ⟨gx, hgx⟩ : ∃ g, w10.heap.size = g := ⟨_, rfl⟩
    clear hb11 HR10 HNR10 HN10 HR9
    by_cases hle0 : le = 0
    case neg =>
      have hy := HYE.out hle0
      simp only [Prod.mk.injEq] at hy
      obtain ⟨-, rfl⟩ := hy
      have hm0 : m = 0 := by rw [← hm, HNE.out hle0 l HAV.out]; rfl
      subst hm0
      have q0 : (f != 0) = true := by simpa using hle0
      clear hle0 HYE HLE HNE HSD
      go_wp2_with fail
      go_ret
      exact ⟨rfl, HFE.out⟩
    subst hle0
    have HSD2 := Lib.hid (HSD.out rfl)
    clear HYE HLE HNE HSD HFE
    have HGL := Lib.hid (show ∀ j, j < m → ∃ x, l[j]? = some x ∧ x ∈ l from fun j hj => ⟨l[j]'(by omega), List.getElem?_eq_getElem _, List.getElem_mem _⟩)
    have HGO := Lib.hid (show ∀ x, x ∈ l → ∀ W, Below wv.heap.size wv W → Calls Tryz.prog 16 #[Pq V, Nv (n1, n2), .string x] W (fun e w' => ∃ v1 v2, e = .returned (.tuple #[Nv (v1, v2), .int .i64 0]) ∧ Below W.heap.size W w') from fun x hx W hb => (HG.out x W hb).mono fun e w' ⟨he, hw⟩ => by
      have h0 := (HAV.out.mem x).1 hx
      refine ⟨(getV U L (n1, n2) x).1.1, (getV U L (n1, n2) x).1.2, ?_, hw⟩
      rw [he, h0])
    have HRI := Lib.hid (show ∀ j x y, l[j]? = some x → l[j + 1]? = some y → dn.lessB x y = true from fun j x y hx hy => by
      have h1 := List.getElem?_eq_some_iff.1 hx
      have h2 := List.getElem?_eq_some_iff.1 hy
      obtain ⟨i1, rfl⟩ := h1
      obtain ⟨i2, rfl⟩ := h2
      exact List.pairwise_iff_getElem.1 HAV.out.rise j (j + 1) i1 i2 (by omega))
    have hml : (m : Int) ≤ 9223372036854775807 := by omega
    go_upto_region 13 with fail
    go_loopg [14, 63] m (fun g s14 s63 wr => ∃ (j : Nat) (fd : Bool), g + j = m ∧ s63 = .int .i64 j ∧ s14 = .bool fd ∧ Hid (fd = true ↔ s ∈ l.take j) ∧ Hid (Below w11.heap.size w11 wr))
    case atStart => exact ⟨0, false, by omega, rfl, rfl, Lib.hid (by simp), Lib.hid (Below.refl _ _)⟩
    case round =>
      obtain ⟨j, fd, hgj, rfl, rfl, HFD, HW⟩ := hrel
      have HRw := Lib.hid (bel_step HR11.out HW.out)
      have HNw := Lib.hid (HN11.out.below HW.out)
      have HNRw := Lib.hid (HNR11.out.below HW.out)
      by_cases hj : j < m
      · obtain ⟨x, hx, hxm⟩ := HGL.out j hj
        obtain ⟨G', rfl, e1⟩ := HNRw.out j x hx
        obtain ⟨m0, m1⟩ := HNw.out
        dsimp only at m0 m1
        have HX := Lib.hid hx
        have HXM := Lib.hid hxm
        have HGX := Lib.hid (HGO.out x hxm)
        have HLW := Lib.hid (And.intro (World.block_lt_of_cell? _ _ e1) (World.block_lt_of_cell? _ _ m0))
        clear hx hxm
        have S0 : wr.cell? ⟨g0, 0, none⟩ = some (.int .i64 n1) ∧ wr.cell? ⟨g0, 1, none⟩ = some (.int .i64 n2) ∧ wr.cell? ⟨G', j, none⟩ = some (.string x) := ⟨m0, m1, e1⟩
        have HSB := Lib.hid (show ∀ W, Below wr.heap.size wr W → W.cell? ⟨g0, 0, none⟩ = some (.int .i64 n1) ∧ W.cell? ⟨g0, 1, none⟩ = some (.int .i64 n2) ∧ W.cell? ⟨G', j, none⟩ = some (.string x) from fun W hb => ⟨(hb.cell (p := ⟨g0, 0, none⟩) HLW.out.2).trans S0.1, (hb.cell (p := ⟨g0, 1, none⟩) HLW.out.2).trans S0.2.1, (hb.cell (p := ⟨G', j, none⟩) HLW.out.1).trans S0.2.2⟩)
        clear m0 m1 e1
        go_upto_region 15 with fail
        go_cut [17] from 66 to 75 (fun va wx => va = .int .i64 0 ∧ Hid (Below wr.heap.size wr wx))
        case first =>
          have HAB := Lib.hid (fun ob => bel_alloc wr ob)
          have HABd := Lib.hid (fun ob => (bel_alloc wr ob).drew)
          have SA : (wr.alloc (.cells #[.int .i64 0, .int .i64 0] 24)).cell? ⟨g0, 0, none⟩ = some (.int .i64 n1) ∧ (wr.alloc (.cells #[.int .i64 0, .int .i64 0] 24)).cell? ⟨g0, 1, none⟩ = some (.int .i64 n2) ∧ (wr.alloc (.cells #[.int .i64 0, .int .i64 0] 24)).cell? ⟨G', j, none⟩ = some (.string x) := HSB.out _ (HAB.out _)
          have HZA := Lib.hid ((R2.new wr 0 0).below (Below.refl _ _).drew)
          have HRd := Lib.hid (bel_step HRw.out (Below.refl wr.heap.size wr).drew)
          have HRAd := Lib.hid (fun ob => bel_step HRw.out (HABd.out ob))
          go_region_held3 (fun w' => w'.cell? ⟨g0, 0, none⟩ = some (.int .i64 n1) ∧ w'.cell? ⟨g0, 1, none⟩ = some (.int .i64 n2) ∧ w'.cell? ⟨G', j, none⟩ = some (.string x))
            (first | with_reducible exact S0 | with_reducible exact S5 | with_reducible exact SA | with_reducible exact ST | assumption | go_keep)
            (first
              | (go_at_call 16; ((with_reducible refine (HGX.out _ HRd.out).mono ?_); rintro _ w5 ⟨v1, v2, rfl, k1⟩; have HB5 := Lib.hid ((Below.refl wr.heap.size wr).drew.trans k1); have S5 : w5.cell? ⟨g0, 0, none⟩ = some (.int .i64 n1) ∧ w5.cell? ⟨g0, 1, none⟩ = some (.int .i64 n2) ∧ w5.cell? ⟨G', j, none⟩ = some (.string x) := HSB.out _ HB5.out; have HFE := Lib.hid (bel_step HB5.out (bel_alloc w5 (.cells #[.int .i64 v1, .int .i64 v2] 24))); clear k1))
              | (go_at_call 16; ((with_reducible refine (HGX.out _ (HRAd.out _)).mono ?_); rintro _ w5 ⟨v1, v2, rfl, k1⟩; have HB5 := Lib.hid (bel_step (HABd.out (.cells #[.int .i64 0, .int .i64 0] 24)) k1); have S5 : w5.cell? ⟨g0, 0, none⟩ = some (.int .i64 n1) ∧ w5.cell? ⟨g0, 1, none⟩ = some (.int .i64 n2) ∧ w5.cell? ⟨G', j, none⟩ = some (.string x) := HSB.out _ HB5.out; have HZ5 := Lib.hid (HZA.out.below k1); obtain ⟨z0, z1, z2, z3⟩ := HZ5.out; have HFG := Lib.hid (set2_below HB5.out (Nat.le_refl wr.heap.size) (.int .i64 v1) (.int .i64 v2)); have ST : ((w5.setCell ⟨wr.heap.size, 0, none⟩ (.int .i64 v1)).setCell ⟨wr.heap.size, 1, none⟩ (.int .i64 v2)).cell? ⟨g0, 0, none⟩ = some (.int .i64 n1) ∧ ((w5.setCell ⟨wr.heap.size, 0, none⟩ (.int .i64 v1)).setCell ⟨wr.heap.size, 1, none⟩ (.int .i64 v2)).cell? ⟨g0, 1, none⟩ = some (.int .i64 n2) ∧ ((w5.setCell ⟨wr.heap.size, 0, none⟩ (.int .i64 v1)).setCell ⟨wr.heap.size, 1, none⟩ (.int .i64 v2)).cell? ⟨G', j, none⟩ = some (.string x) := HSB.out _ HFG.out; clear k1)))
          all_goals
            go_wp2_with fail
            go_meet
            case rel => first | exact ⟨rfl, Lib.hid HFG.out⟩ | exact ⟨rfl, Lib.hid HFE.out⟩
        case rest =>
        obtain ⟨rfl, HBx⟩ := hcut
        have HB2 := Lib.hid (bel_step HW.out HBx.out)
        have HNx := Lib.hid (HNRw.out.below HBx.out)
        have hjm : (j : Int) < m := by omega
        obtain ⟨G2, hG2, e2⟩ := HNx.out j x HX.out
        obtain rfl : G2 = G' := by injection hG2 with h; injection h with h _ _; exact h.symm
        clear hG2 S0
        have HFD2 := Lib.hid (show ((fd || decide (x = s)) = true) ↔ s ∈ l.take (j + 1) from by
          have ht : l.take (j + 1) = l.take j ++ [x] := by rw [List.take_add_one, HX.out]; rfl
          rw [ht, List.mem_append, List.mem_singleton, ← HFD.out, Bool.or_eq_true, decide_eq_true_eq]
          exact ⟨fun h => h.imp id Eq.symm, fun h => h.imp id Eq.symm⟩)
        obtain ⟨q, hq⟩ : ∃ q, decide (x = s) = q := ⟨_, rfl⟩
        have hxs : (x.toList == s.toList) = q := by rw [dn.beq_names, hq]
        rw [hq] at HFD2
        clear hq HFD HGX HXM HLW HSB
        have HEND := Lib.hid (show ∀ W, Below wc.heap.size wc W → Below w11.heap.size w11 W from fun W h => bel_step HB2.out h)
        by_cases hj0 : j = 0
        · subst hj0
          cases fd
          case false =>
            go_wp2_with fail
            go_quiet (fail)
            go_wp2_with fail
            go_roundg (gk - 1)
            case measure => omega
            case rel => exact ⟨0 + 1, q, by omega, by go_num, by simp [hxs], Lib.hid (by simpa using HFD2.out), Lib.hid (HEND.out _ (by first | exact (Below.refl _ _).drewN _ | exact dn.below_drewN (Below.refl _ _) _ | exact dn.below_drewN (dn.below_drewN (Below.refl _ _) _) _))⟩
          case true =>
            go_wp2_with fail
            go_quiet (fail)
            go_wp2_with fail
            go_roundg (gk - 1)
            case measure => omega
            case rel => exact ⟨0 + 1, true, by omega, by go_num, rfl, Lib.hid (by simpa using HFD2.out), Lib.hid (HEND.out _ (by first | exact (Below.refl _ _).drewN _ | exact dn.below_drewN (Below.refl _ _) _ | exact dn.below_drewN (dn.below_drewN (Below.refl _ _) _) _))⟩
        · obtain ⟨k, hk⟩ : ∃ k, j - 1 = k := ⟨_, rfl⟩
          have hkj : j = k + 1 := by omega
          obtain ⟨z, hz, -⟩ := HGL.out k (by omega)
          obtain ⟨G3, hG3, e3⟩ := HNx.out k z hz
          obtain rfl : G3 = G2 := by injection hG3 with h; injection h with h _ _; exact h.symm
          have hl := HRI.out k z x hz (by rw [← hkj]; exact HX.out)
          have HLS := Lib.hid (show ∀ W, Calls Tryz.prog 29 #[.string z, .string x] W (fun e w' => e = .returned (.bool true) ∧ w' = W) from fun W => by have := dn.less_any z x W; rw [hl] at this; exact this)
          have hsub : IntKind.i64.wrap ((j : Int) - 1) = (k : Int) := by rw [show (j : Int) - 1 = (k : Int) by omega]; unfold IntKind.wrap; simp [IntKind.bits, IntKind.signed]; omega
          have hkm : (k : Int) < m := by omega
          have hgt : decide ((j : Int) > 0) = true := by simp; omega
          have hgt2 : decide (0 < j) = true := by simp; omega
          have hgt3 : 0 < j := by omega
          have hgt4 : (0 : Int) < j := by omega
          clear hz hl hG3 hkj hk hj0
          cases fd
          case false =>
            go_wp2_with fail
            go_quiet ((go_at_call 29; with_reducible exact Calls.quiet_of_same (HLS.out _)))
            go_wp2_with fail
            try (go_quiet (fail))
            try (go_wp2_with fail)
            go_roundg (gk - 1)
            case measure => omega
            case rel => exact ⟨j + 1, q, by omega, by go_num, by simp [hxs], Lib.hid (by simpa using HFD2.out), Lib.hid (HEND.out _ (by first | exact (Below.refl _ _).drewN _ | exact dn.below_drewN (Below.refl _ _) _ | exact dn.below_drewN (dn.below_drewN (Below.refl _ _) _) _))⟩
          case true =>
            go_wp2_with fail
            go_quiet ((go_at_call 29; with_reducible exact Calls.quiet_of_same (HLS.out _)))
            go_wp2_with fail
            try (go_quiet (fail))
            try (go_wp2_with fail)
            go_roundg (gk - 1)
            case measure => omega
            case rel => exact ⟨j + 1, true, by omega, by go_num, rfl, Lib.hid (by simpa using HFD2.out), Lib.hid (HEND.out _ (by first | exact (Below.refl _ _).drewN _ | exact dn.below_drewN (Below.refl _ _) _ | exact dn.below_drewN (dn.below_drewN (Below.refl _ _) _) _))⟩
      · have hjm : j = m := by omega
        subst hjm
        have HFD2 := Lib.hid (show fd = true ↔ f = 0 from by rw [HFD.out, ← HMS.out, List.take_of_length_le (by rw [HMM.out]; exact Nat.le_refl _)])
        clear HFD
        obtain ⟨m0, m1⟩ := HNw.out
        dsimp only at m0 m1
        go_wp2_with fail
        refine (HST.out _ HRw.out).mono ?_
        rintro _ w20 ⟨l', hal, rfl, hb20⟩
        obtain rfl : l = l' := HAV.out.same hal
        obtain ⟨hs1, hs2⟩ := HSD2.out l.length
        have HR20 := Lib.hid (bel_step HRw.out hb20)
        generalize statN U L (n1, n2) l.length = st at *
        obtain ⟨⟨ka, kb, kc⟩, ke⟩ := st
        dsimp only at hs1 hs2
        rw [HMM.out] at hs1
        subst hs1
        subst hs2
        dsimp only
        clear hb20 hal HSD2 HST m0 m1
        obtain ⟨w21, hw21⟩ : ∃ w, w20.alloc (.cells #[.int .i64 ka, .int .i64 j, .int .i64 kc] 47) = w := ⟨_, rfl⟩
        have hz21 := R3.new w20 ka j kc
        rw [hw21] at hz21
        obtain ⟨gs, hgs⟩ : ∃ g, w20.heap.size = g := ⟨_, rfl⟩
        rw [hgs] at hz21
        obtain ⟨k0, k1, k2, -, -, -⟩ := hz21
        have HFE := Lib.hid (bel_step HBv.out (bel_step HR20.out (show Below w20.heap.size w20 w21 by rw [← hw21]; exact bel_alloc _ _)))
        cases fd
        case false =>
          have qf : (f == 0) = false := by have := HFD2.out; simp at this; simpa using this
          go_wp2_with fail
          go_ret
          exact ⟨rfl, HFE.out⟩
        case true =>
          obtain rfl : f = 0 := HFD2.out.1 rfl
          go_wp2_with fail
          go_ret
          exact ⟨rfl, HFE.out⟩

set_option maxRecDepth 100000 in
theorem lifted (os : Os) (started : os.Started) (H : Type) (enc : TypeId × Value → H) :
    ReturnsInHanded {} Tryz.checked os 4 .any (Rows.mergeNamesSpec.pre6 enc Tryz.prog Tryz.f4 Rows.mergeNamesRow.domain false) (Rows.mergeNamesSpec.post enc Tryz.prog Tryz.f4 false true false false) := by
  refine returnsInHanded_of_change_sized (C := Tryz.checked) own started (by kernel_rfl) Tryz.func4
    (ChangeSpec.witness6 (enc := enc) (C := Tryz.checked) false ⟨#[], #[.slice none 0 0, .agg #[.int .i64 0, .int .i64 0], .string ByteArray.empty], []⟩ 8 (by kernel_rfl) (by kernel_rfl) (by kernel_rfl) (by kernel_rfl)) ?_
  intro W base args ds gs before hval0 hW hcnd hsz _
  have hval : ∀ (j : Nat) t v, Tryz.f4.params[j]? = some t → args[j]? = some v → Value.okWide Tryz.prog W .any base t v := hval0
  have hW' := hW
  obtain ⟨p, q, hA0, hV, rfl, hfz, hnd⟩ := hW
  have hA : DataW.TrodAll enc Tryz.prog W 0 (fun _ => true) true Tryz.f4.params.toList args.toList ds p := hA0
  rw [Tryz.params4] at hA hval
  obtain ⟨v0, vs0, d0, ds0, p0, q0, hargs, rfl, rfl, h0, r0⟩ := trodAll_cons hA
  obtain ⟨v1, vs1, d1, ds1, p1, q1, rfl, rfl, rfl, h1, r1⟩ := trodAll_cons r0
  obtain ⟨v2, vs2, d2, ds2, p2, q2, rfl, rfl, rfl, h2, r2⟩ := trodAll_cons r1
  obtain ⟨rfl, rfl, rfl⟩ := trodAll_nil r2
  obtain rfl : args = #[v0, v1, v2] := by cases args; simp_all
  obtain ⟨rfl, rfl⟩ := trodVars_none hV
  have hlt := fun x hx => hW'.lt x hx
  have t0 := h0
  obtain ⟨A0, n0, c0, x0, rfl, e0, s0⟩ := cb.open_acts (hval 0 22 v0 rfl rfl) h0
  have t1 := h1
  obtain ⟨n1, rfl⟩ := open_node (hval 1 24 v1 rfl rfl) h1
  obtain ⟨a2, rfl, rfl, rfl, w2⟩ := open_string Tryz.underlying9 (hval 2 9 v2 rfl rfl) h2
  have b2 : a2.size ≤ 140737488351232 := by
    have := sized_string hsz (j := 2) (t := 9) rfl rfl
    simpa [reachBytes] using this
  clear hA0 hval0
  refine (walk A0 n0 c0 x0 n1 a2 W e0 s0 b2).mono fun e W' ⟨he, hg⟩ => ?_
  subst he
  exact ⟨_, rfl, cb.law_post (pv := []) hW' (fun _ _ _ => (trodAll_cons_mk (shut_bool Tryz.underlying4 _) trodAll_mk0)) (fun sp hsp => (trodAll_cons_mk (cb.arg_stays t0 hg (by simp +contextual) hlt hsp laid) (trodAll_cons_mk (node_stays t1 hg (by simp +contextual) hlt hsp laid) (trodAll_cons_mk (shut_string Tryz.underlying9 w2) trodAll_mk0)))) (fun _ _ => rfl) (by simp)
    hg (ok_one (by kernel_rfl) rfl (okWide_bool_mk Tryz.underlying4 _))⟩

theorem over : Rows.mergeNamesRow.holds Tryz.pinned (OpenSpec.ofChange Rows.mergeNamesSpec) :=
  OpenClaim.holds_of_wide 4 Tryz.f4 rfl rfl rfl rfl rfl rfl rfl ⟨rfl, rfl, rfl, rfl, rfl⟩ rfl rfl rfl rfl rfl (by kernel_rfl) Tryz.func4 (by kernel_rfl)
    (of_decide_eq_true (by kernel_rfl)) (by unfold Func.isWrapper; first | (rw [if_pos (by decide +kernel)]; kernel_rfl) | (rw [if_neg (by decide +kernel)]; exact ⟨rfl, rfl⟩))
    (fun os started H enc _ => lifted os started H enc)

/-- The statement. -/
theorem proved : Rows.MergeNamesSaid :=
  over
end Go.Proofs.YtkbdmjcdhkdanaaGreat.mergeNames
