/- For every list of acts, every node and every name the law MergeAsks returns true, and what is handed in reads as it did; there are no conditions. -/
import Derived.Test.YtkbdmjcdhkdanaaGreatRows
import Derived.Test.YtkbdmjcdhkdanaaGreatZ37
import Derived.Deep.RegionWith
import Derived.Deep.LoopGhost
import Derived.StillTailTactics
import Derived.Deep.QuietTactic
import Derived.BigQuiet
import Derived.ProofKit
import Derived.OpenShut
import Derived.ShutString
import Derived.SizedLaws
namespace Go.Proofs.YtkbdmjcdhkdanaaGreat.mergeAsks
open Go.ChangeShapes Go.WideShapes Go.ChangeAt Go.RowKit
open Go.ChangeMaps (open_string shut_string)
open Go.Proofs.YtkbdmjcdhkdanaaGreat.mg
set_option linter.unusedVariables false
set_option linter.unusedSimpArgs false

theorem own : ownKnob Tryz.prog.godebug = none := by kernel_rfl
theorem laid : laidOutB Tryz.prog = true := by kernel_rfl

open Go.Proofs.YtkbdmjcdhkdanaaGreat.br (BS Ino Inv fresh)
open Go.Proofs.YtkbdmjcdhkdanaaGreat.cb (BrX RetW RetI No Act7 Acts Bt BuildE build_any)
open Go.Proofs.YtkbdmjcdhkdanaaGreat.bl (Pq Only)
theorem eql47 (a b c : Int) (w : World) : (binOp .eql 47 (.agg #[.int .i64 a, .int .i64 b, .int .i64 c]) (.agg #[.int .i64 a, .int .i64 b, .int .i64 c])).run Tryz.prog w = .ok (.bool true) w := by
  have hS : Tryz.prog.underlying 47 = some (.struct (Tryz.prog.fieldsOf 47)) := by kernel_rfl
  have hp : Tryz.prog.stoodInHeld 47 = false := by kernel_rfl
  have u3 := Tryz.underlying3
  have a3 := Tryz.isAgg3
  have z3 := Tryz.sizeOf3
  rw [run_eql_struct, show (10000 : Nat) = 9999 + 1 from rfl, run_equalIn_agg w 9999 47 _ _ hS hp]
  simp only [Program.fieldsOf, Tryz.underlying47]
  go_simp
theorem guard47 (op : BinOp) (a b : Operand) (xs ys : Array Value) (w : World) : (eqGuard op 47 a b (.agg xs) (.agg ys)).run Tryz.prog w = .ok () w := run_eqGuard_agg w op 47 a b xs ys (by kernel_rfl)
theorem get_size {S : BS} {room : Nat} (hI : Inv S room) (d : Int) (s : ByteArray) (h : (S.get d s).1 ≠ 0) : s.size ≤ 60 := by
  rw [all_get] at h
  cases hl : dn.lget s (S.all d).1 with
  | none => rw [hl] at h; exact absurd rfl h
  | some v => exact all_size hI d _ ((dn.lget_some (all_sorted hI d)).1 hl)
theorem getV_size {U L : BS} {r : Nat} (hU : Inv U r) (hL : Inv L r) (n : Nd) (s : ByteArray) (h : (getV U L n s).2 = 0) : s.size ≤ 60 := by
  have hd := get_down hU hL n s h
  by_cases h1 : (getV U L n s).1.1 = 0
  · have h2 : (getV U L n s).1.2 ≠ 0 := fun e => hd.some (Prod.ext h1 e)
    exact get_size hL _ _ (by rw [hd.low h2]; exact h2)
  · exact get_size hU _ _ (by rw [hd.up h1]; exact h1)
def dot : ByteArray := { data := #[46] }
/-- The names, the first j with a dot behind. -/
def RJ (w : World) (lo : Nat) (A : Option Addr) (l : List ByteArray) (j : Nat) : Prop := ∀ k x, l[k]? = some x → ∃ G, A = some ⟨G, 0, none⟩ ∧ lo ≤ G ∧ G < w.heap.size ∧ w.cell? ⟨G, k, none⟩ = some (.string (if k < j then x ++ dot else x)) ∧ w.frozen? ⟨G, k, none⟩ = false
theorem RJ.of {w : World} {lo : Nat} {A : Option Addr} {l : List ByteArray} (h : NR w lo A l) : RJ w lo A l 0 := fun k x hx => by
  obtain ⟨G, e, h1, h2, h3, h4⟩ := h k x hx
  exact ⟨G, e, h1, h2, by rw [if_neg (Nat.not_lt_zero _)]; exact h3, h4⟩
theorem RJ.below {w w' : World} {lo j : Nat} {A : Option Addr} {l : List ByteArray} (h : RJ w lo A l j) (hb : Below w.heap.size w w') : RJ w' lo A l j := fun k x hx => by
  obtain ⟨G, e, h1, h2, h3, h4⟩ := h k x hx
  have hk := hb.block G h2
  exact ⟨G, e, h1, Nat.lt_of_lt_of_le h2 hb.size, (World.cell?_of_block (a := ⟨G, k, none⟩) hk).trans h3, (World.frozen?_of_block (a := ⟨G, k, none⟩) hk).trans h4⟩
theorem RJ.step {w : World} {lo j G : Nat} {l : List ByteArray} {x : ByteArray} (h : RJ w lo (some ⟨G, 0, none⟩) l j) (hx : l[j]? = some x) : RJ (w.setCell ⟨G, j, none⟩ (.string (x ++ dot))) lo (some ⟨G, 0, none⟩) l (j + 1) := fun k y hy => by
  obtain ⟨G', e, h1, h2, h3, h4⟩ := h k y hy
  obtain rfl : G = G' := by injection e with e; injection e
  refine ⟨G, rfl, h1, by rw [World.size_setCell]; exact h2, ?_, by rw [World.frozen?_setCell]; exact h4⟩
  by_cases hk : k = j
  · subst hk
    obtain rfl : x = y := by rw [hx] at hy; injection hy
    rw [if_pos (Nat.lt_succ_self _)]
    exact World.cell?_setCell_same' _ _ _ (by rw [h3]; rfl)
  · rw [World.cell?_setCell_other _ _ _ _ (fun e => by injection e with _ e; exact hk e.symm), h3]
    by_cases h5 : k < j
    · rw [if_pos h5, if_pos (by omega)]
    · rw [if_neg h5, if_neg (by omega)]
set_option maxRecDepth 100000 in
set_option maxHeartbeats 8000000 in
theorem walk (A : Option Addr) (n c : Nat) (F : Nat → Act7) (nd : Nd) (s : ByteArray) (w : World) (k1 : n ≤ c ∧ c ≤ maxLen) (hF : Acts w w.heap.size A n F) (ws : s.size ≤ 140737488351232) :
    Calls Tryz.prog 10 #[.slice A n c, Nv nd, .string s] w (AwakeE w) := by
  have hnm : n ≤ maxLen := Nat.le_trans k1.1 k1.2
  obtain ⟨n1, n2⟩ := nd
  obtain ⟨w0, hw0⟩ : ∃ w0, w.alloc (.cells #[.int .i64 n1, .int .i64 n2] 24) = w0 := ⟨_, rfl⟩
  have HB0 := Lib.hid (show Below w.heap.size w w0 by rw [← hw0]; exact bel_alloc _ _)
  have HN0 := Lib.hid (show Nb w0 w.heap.size (n1, n2) by rw [← hw0]; exact Nb.new w n1 n2)
  have HBD := Lib.hid (fun w1 (hb : Below w0.heap.size w0 w1) => build_any A n c F w0 w1 hnm (acts_up (hF.below HB0.out) HB0.out.size) hb)
  obtain ⟨g0, hg0⟩ : ∃ g, w.heap.size = g := ⟨_, rfl⟩
  rw [hg0] at HN0
  clear k1 hF hnm
  go_enter Tryz.func10, Tryz.ntmps10
  go_wp2_with fail
  refine (awake_any _).mono ?_
  rintro _ w1 ⟨rfl, hb1⟩
  have HB1 := Lib.hid (HBD.out _ hb1)
  clear hb1 HBD hw0
  go_wp2_with fail
  refine HB1.out.mono ?_
  rintro _ w2 h2
  clear HB1
  rcases h2 with ⟨v, rfl, h2⟩ | ⟨G, p, U, L, rfl, h2⟩
  · have HE := Lib.hid (bel_step HB0.out h2)
    clear h2
    go_wp2_with fail
    go_ret
    exact ⟨rfl, HE.out⟩
  have H2 := Lib.hid h2
  clear h2
  obtain ⟨-, c0, c1, -, -⟩ := H2.out
  have HN2 := Lib.hid (HN0.out.below H2.out.q.bel)
  go_wp2_with fail
  go_region_held3 (fun w' => w'.cell? ⟨G, 0, none⟩ = some (Pq p.P1) ∧ w'.cell? ⟨G, 1, none⟩ = some (Pq p.P2))
    (first | exact ⟨c0, c1⟩ | exact S8 | assumption | go_keep)
    (first | (go_at_call 13; ((with_reducible refine (Bt.new (Bt.below H2.out (Below.refl w2.heap.size w2).drew) 1 1).mono ?_); rintro _ wv ⟨V, rfl, hv3, hb3⟩; have HS3 := Lib.hid ((Below.refl w2.heap.size w2).drew.trans hb3); have HV := Lib.hid hv3; have HT := Lib.hid (Bt.below H2.out HS3.out); have HNv := Lib.hid (HN2.out.below HS3.out); have S8 := And.intro HT.out.c0 HT.out.c1)))
  all_goals
    clear c0 c1 S8 hv3 hb3 HS3 H2 HN0 HN2
    have HBv := Lib.hid (show Below w.heap.size w wv from bel_step HB0.out HT.out.q.bel)
    have HI := Lib.hid (And.intro (Bt.good1 HT.out) (Bt.good2 HT.out))
    have HTX := Lib.hid (fun W (hb : Below wv.heap.size wv W) => Bt.below HT.out hb)
    have HVX := Lib.hid (fun W (hb : Below wv.heap.size wv W) => HV.out.below hb)
    have HR0 := Lib.hid (Below.refl wv.heap.size wv)
    obtain ⟨a0, ha0⟩ : ∃ a, (U.count 200 : Int) = a := ⟨_, rfl⟩
    obtain ⟨b0, hb0⟩ : ∃ b, (L.count 200 : Int) = b := ⟨_, rfl⟩
    have HIU := Lib.hid (show ∀ W, Below wv.heap.size wv W → Calls Tryz.prog 37 #[Pq p.P1] W (fun e w' => e = .returned (.int .i64 a0) ∧ Below W.heap.size W w') from fun W hb => (Bt.inoU (HTX.out W hb)).mono fun e w' ⟨h1, h2⟩ => ⟨by rw [h1, ha0], by rw [h2]; exact Below.refl _ _⟩)
    have HIL := Lib.hid (show ∀ W, Below wv.heap.size wv W → Calls Tryz.prog 37 #[Pq p.P2] W (fun e w' => e = .returned (.int .i64 b0) ∧ Below W.heap.size W w') from fun W hb => (Bt.inoL (HTX.out W hb)).mono fun e w' ⟨h1, h2⟩ => ⟨by rw [h1, hb0], by rw [h2]; exact Below.refl _ _⟩)
    clear ha0 hb0
    obtain ⟨le, hle⟩ : ∃ le, lstV U L (n1, n2) = le := ⟨_, rfl⟩
    have HAL := Lib.hid (fun W (hb : Below wv.heap.size wv W) => all_any (HVX.out W hb) HI.out.1 HI.out.2 (n1, n2))
    have HST := Lib.hid (fun W (hb : Below wv.heap.size wv W) => stat_any (HVX.out W hb) HI.out.1 HI.out.2 (n1, n2))
    unfold AllE at HAL
    unfold StatE at HST
    rw [hle] at HAL
    clear hle
    have HG := Lib.hid (fun W (hb : Below wv.heap.size wv W) => get_any (HVX.out W hb) (n1, n2) s)
    unfold RetW at HG
    generalize getV U L (n1, n2) s = r at *
    obtain ⟨⟨x1, x2⟩, f⟩ := r
    dsimp only at HG
    have HTB := Lib.hid (fun p' : BelowOf wv => HTX.out _ p'.h)
    have z2 : ∀ p' : BelowOf wv, p'.W.cell? ⟨G, 0, none⟩ = some (Pq p.P1) := fun p' => (HTB.out p').c0
    have z3 : ∀ p' : BelowOf wv, p'.W.cell? ⟨G, 1, none⟩ = some (Pq p.P2) := fun p' => (HTB.out p').c1
    have HCA := Lib.hid (fun p' : BelowOf wv => calls_below p' (v := .int .i64 a0) (HIU.out _ p'.h))
    have HCB := Lib.hid (fun p' : BelowOf wv => calls_below p' (v := .int .i64 b0) (HIL.out _ p'.h))
    go_upto_region 7 with fail
    refine wp_region_below (by kernel_rfl) (by kernel_rfl) ?_
    repeat (go_big_quiet_step ((first | (go_at_call 37; with_reducible exact HCA.out _) | (go_at_call 37; with_reducible exact HCB.out _) | fail)))
    refine wpQuiet_nil ?_
    rintro wz ⟨⟨w7, hz⟩, hw⟩
    obtain rfl : wz = w7 := hw
    have HR7 := Lib.hid hz
    have HN7 := Lib.hid (HNv.out.below hz)
    clear hz z2 z3 HCA HCB HTB
    obtain ⟨m0, m1⟩ := HN7.out
    dsimp only at m0 m1
    go_wp2_with fail
    refine (HG.out _ HR7.out).mono ?_
    rintro _ w11 ⟨rfl, hb11⟩
    have HR11 := Lib.hid (bel_step HR7.out hb11)
    have HN11 := Lib.hid (HN7.out.below hb11)
    clear hb11
    clear m0 m1
    obtain ⟨w12, hw12⟩ : ∃ w12, w11.alloc (.cells #[.int .i64 x1, .int .i64 x2] 24) = w12 := ⟨_, rfl⟩
    have hb12 : Below w11.heap.size w11 w12 := by rw [← hw12]; exact bel_alloc _ _
    have HR12 := Lib.hid (bel_step HR11.out hb12)
    have HN12 := Lib.hid (HN11.out.below hb12)
    have HX12 := Lib.hid (show Nb w12 w11.heap.size (x1, x2) by rw [← hw12]; exact Nb.new w11 x1 x2)
    obtain ⟨gHX, hgHX⟩ : ∃ g, w11.heap.size = g := ⟨_, rfl⟩
    rw [hgHX] at HX12
    clear hb12
    obtain ⟨m0, m1⟩ := HN12.out
    dsimp only at m0 m1
    go_wp2_with fail
    refine (HG.out _ HR12.out).mono ?_
    rintro _ w13 ⟨rfl, hb13⟩
    have HR13 := Lib.hid (bel_step HR12.out hb13)
    have HN13 := Lib.hid (HN12.out.below hb13)
    have HX13 := Lib.hid (HX12.out.below hb13)
    clear hb13
    clear m0 m1
    obtain ⟨w14, hw14⟩ : ∃ w14, w13.alloc (.cells #[.int .i64 x1, .int .i64 x2] 24) = w14 := ⟨_, rfl⟩
    have hb14 : Below w13.heap.size w13 w14 := by rw [← hw14]; exact bel_alloc _ _
    have HR14 := Lib.hid (bel_step HR13.out hb14)
    have HN14 := Lib.hid (HN13.out.below hb14)
    have HX14 := Lib.hid (HX13.out.below hb14)
    have HY14 := Lib.hid (show Nb w14 w13.heap.size (x1, x2) by rw [← hw14]; exact Nb.new w13 x1 x2)
    obtain ⟨gHY, hgHY⟩ : ∃ g, w13.heap.size = g := ⟨_, rfl⟩
    rw [hgHY] at HY14
    clear hb14
    obtain ⟨m0, m1⟩ := HN14.out
    dsimp only at m0 m1
    go_wp2_with fail
    refine (HAL.out _ HR14.out).mono ?_
    rintro _ wA ⟨A', c', l, rfl, hal, hnr, hl1, hl2, hl3, hbA⟩
    have HLA := Lib.hid hbA
    have HAV := Lib.hid hal
    have HJ0 := Lib.hid (RJ.of hnr)
    clear hal hnr hbA m0 m1
    obtain ⟨m, hm⟩ : ∃ m, l.length = m := ⟨_, rfl⟩
    have HMM := Lib.hid hm
    rw [hm] at hl1 hl3
    rw [hm]
    clear hm
    have hml : (m : Int) ≤ 9223372036854775807 := by omega
    have HGL := Lib.hid (show ∀ j, j < m → ∃ x, l[j]? = some x ∧ x.size ≤ 60 from fun j hj => ⟨l[j]'(by have := HMM.out; omega), List.getElem?_eq_getElem _, getV_size HI.out.1 HI.out.2 (n1, n2) _ ((HAV.out.mem _).1 (List.getElem_mem _))⟩)
    go_upto_region 12 with fail
    go_loopg [76] m (fun g s76 wr => ∃ j : Nat, g + j = m ∧ s76 = .int .i64 j ∧ Hid (RJ wr w14.heap.size A' l j) ∧ Hid (Below w14.heap.size w14 wr))
    case atStart => exact ⟨0, by omega, rfl, HJ0, HLA⟩
    case round =>
      clear HJ0 HLA
      obtain ⟨j, hgj, rfl, HJ, HW⟩ := hrel
      by_cases hj : j < m
      · obtain ⟨x, hx, hxz⟩ := HGL.out j hj
        have hxz2 : (x.size : Int) ≤ 60 := by omega
        obtain ⟨G', rfl, g1, g2, e1, z1⟩ := HJ.out j x hx
        rw [if_neg (Nat.lt_irrefl _)] at e1
        have HJ2 := Lib.hid (RJ.step HJ.out hx)
        have HW2 := Lib.hid (HW.out.setCell (p := ⟨G', j, none⟩) g1 (.string (x ++ dot)))
        clear hx g1 g2
        go_wp2_with fail
        go_roundg (gk - 1)
        case measure => omega
        case rel => exact ⟨j + 1, by omega, by go_num, HJ2, HW2⟩
      obtain rfl : j = m := by omega
      have HRw := Lib.hid (bel_step HR14.out HW.out)
      have HNw := Lib.hid (HN14.out.below HW.out)
      have HXw := Lib.hid (HX14.out.below HW.out)
      have HYw := Lib.hid (HY14.out.below HW.out)
      obtain ⟨m0, m1⟩ := HNw.out
      dsimp only at m0 m1
      clear HW hj hgj
      go_wp2_with fail
      refine (HAL.out _ HRw.out).mono ?_
      rintro _ wB ⟨A2, c2, l2, rfl, hal, hnr, hk1, hk2, hk3, hbB⟩
      obtain rfl : l = l2 := HAV.out.same hal
      have HNS := Lib.hid hnr.ns
      have HJB := Lib.hid (HJ.out.below hbB)
      have HRB := Lib.hid (bel_step HRw.out hbB)
      have HNB := Lib.hid (HNw.out.below hbB)
      have HXB := Lib.hid (HXw.out.below hbB)
      have HYB := Lib.hid (HYw.out.below hbB)
      have hm := HMM.out
      rw [hm] at hk1 hk3
      rw [hm]
      clear hal hnr hbB m0 m1 hm HJ HRw HNw HXw HYw
      go_upto_region 18 with fail
      go_loopg [94] j (fun g s94 wr => ∃ i : Nat, g + i = j ∧ s94 = .int .i64 i ∧ Hid (Below wB.heap.size wB wr))
      case atStart => exact ⟨0, by omega, rfl, Lib.hid (Below.refl _ _)⟩
      case round =>
        obtain ⟨i, hgi, rfl, HW⟩ := hrel
        by_cases hi : i < j
        · obtain ⟨x, hx, hxz⟩ := HGL.out i hi
          have hxz2 : (x.size : Int) ≤ 60 := by omega
          obtain ⟨G', rfl, g1, g2, e1, z1⟩ := (HJB.out.below HW.out) i x hx
          rw [if_pos hi] at e1
          obtain ⟨G2, rfl, e2⟩ := (HNS.out.below HW.out) i x hx
          have hij : (i : Int) < j := by omega
          clear hx g1 g2 z1
          unfold dot at e1
          go_wp2_with fail
          go_quiet (fail)
          go_wp2_with fail
          go_roundg (gk - 1)
          case measure => omega
          case rel => exact ⟨i + 1, by omega, by go_num, Lib.hid (dn.below_drewN HW.out _)⟩
        obtain rfl : i = j := by omega
        have HRw := Lib.hid (bel_step HRB.out HW.out)
        have HNw := Lib.hid (HNB.out.below HW.out)
        have HXw := Lib.hid (HXB.out.below HW.out)
        have HYw := Lib.hid (HYB.out.below HW.out)
        obtain ⟨m0, m1⟩ := HNw.out
        dsimp only at m0 m1
        clear HW hi hgi HJB HNS HRB HNB HXB HYB
        go_wp2_with fail
        refine (HST.out _ HRw.out).mono ?_
        rintro _ w31 ⟨l2, hal, rfl, hb31⟩
        obtain rfl : l = l2 := HAV.out.same hal
        generalize hst : statN U L (n1, n2) l.length = st
        obtain ⟨⟨ka, kb, kc⟩, ke⟩ := st
        dsimp only
        have HSE := Lib.hid hst
        have HR31 := Lib.hid (bel_step HRw.out hb31)
        have HN31 := Lib.hid (HNw.out.below hb31)
        have HX31 := Lib.hid (HXw.out.below hb31)
        have HY31 := Lib.hid (HYw.out.below hb31)
        clear hal hst hb31 m0 m1 HRw HNw HXw HYw
        obtain ⟨w32, hw32⟩ : ∃ w, w31.alloc (.cells #[.int .i64 ka, .int .i64 kb, .int .i64 kc] 47) = w := ⟨_, rfl⟩
        have hb32 : Below w31.heap.size w31 w32 := by rw [← hw32]; exact bel_alloc _ _
        have hz32 := R3.new w31 ka kb kc
        rw [hw32] at hz32
        obtain ⟨gs, hgs⟩ : ∃ g, w31.heap.size = g := ⟨_, rfl⟩
        rw [hgs] at hz32
        have HZ32 := Lib.hid hz32
        have HR32 := Lib.hid (bel_step HR31.out hb32)
        have HN32 := Lib.hid (HN31.out.below hb32)
        have HX32 := Lib.hid (HX31.out.below hb32)
        have HY32 := Lib.hid (HY31.out.below hb32)
        obtain ⟨m0, m1⟩ := HN32.out
        dsimp only at m0 m1
        clear hz32 hb32 HR31 HN31 HX31 HY31
        go_wp2_with fail
        refine (HST.out _ HR32.out).mono ?_
        rintro _ w33 ⟨l2, hal, rfl, hb33⟩
        obtain rfl : l = l2 := HAV.out.same hal
        rw [HSE.out]
        dsimp only
        have HR33 := Lib.hid (bel_step HR32.out hb33)
        have HZ33 := Lib.hid (HZ32.out.below hb33)
        have HX33 := Lib.hid (HX32.out.below hb33)
        have HY33 := Lib.hid (HY32.out.below hb33)
        clear hal hb33 m0 m1 HR32 HN32 HX32 HY32 HZ32
        obtain ⟨w34, hw34⟩ : ∃ w, w33.alloc (.cells #[.int .i64 ka, .int .i64 kb, .int .i64 kc] 47) = w := ⟨_, rfl⟩
        have hb34 : Below w33.heap.size w33 w34 := by rw [← hw34]; exact bel_alloc _ _
        have hz34 := R3.new w33 ka kb kc
        rw [hw34] at hz34
        obtain ⟨gt, hgt⟩ : ∃ g, w33.heap.size = g := ⟨_, rfl⟩
        rw [hgt] at hz34
        have HR34 := Lib.hid (bel_step HR33.out hb34)
        obtain ⟨k0, k1, k2, -, -, -⟩ := HZ33.out.below hb34
        obtain ⟨t0, t1, t2, -, -, -⟩ := hz34
        obtain ⟨x0, x1'⟩ := HX33.out.below hb34
        obtain ⟨y0, y1'⟩ := HY33.out.below hb34
        dsimp only at x0 x1' y0 y1'
        obtain ⟨-, c0, c1, -, -⟩ := HTX.out _ HR34.out
        have hgd := guard24
        have hge := guard47
        have hq : ∀ W, (binOp .eql 24 (.agg #[.int .i64 x1, .int .i64 x2]) (.agg #[.int .i64 x1, .int .i64 x2])).run Tryz.prog W = .ok (.bool true) W := fun W => by rw [← decide_eq_true (show ((x1, x2) : Nd) = (x1, x2) from rfl)]; exact run_eql24 (x1, x2) (x1, x2) W
        have hr := eql47 ka kb kc
        clear hb34 HR33 HX33 HY33 HZ33
        go_wp2_with fail
        refine (HIU.out _ HR34.out).mono ?_
        rintro _ w35 ⟨rfl, hb35⟩
        have HR35 := Lib.hid (bel_step HR34.out hb35)
        clear hb35 c0 c1
        obtain ⟨-, c0, c1, -, -⟩ := HTX.out _ HR35.out
        go_wp2_with fail
        refine (HIL.out _ HR35.out).mono ?_
        rintro _ w36 ⟨rfl, hb36⟩
        have HFE := Lib.hid (bel_step HBv.out (bel_step HR35.out hb36))
        clear hb36
        go_wp2_with fail
        go_ret
        exact ⟨rfl, HFE.out⟩

set_option maxRecDepth 100000 in
theorem lifted (os : Os) (started : os.Started) (H : Type) (enc : TypeId × Value → H) :
    ReturnsInHanded {} Tryz.checked os 10 .any (Rows.mergeAsksSpec.pre6 enc Tryz.prog Tryz.f10 Rows.mergeAsksRow.domain false) (Rows.mergeAsksSpec.post enc Tryz.prog Tryz.f10 false true false false) := by
  refine returnsInHanded_of_change_sized (C := Tryz.checked) own started (by kernel_rfl) Tryz.func10
    (ChangeSpec.witness6 (enc := enc) (C := Tryz.checked) false ⟨#[], #[.slice none 0 0, .agg #[.int .i64 0, .int .i64 0], .string ByteArray.empty], []⟩ 8 (by kernel_rfl) (by kernel_rfl) (by kernel_rfl) (by kernel_rfl)) ?_
  intro W base args ds gs before hval0 hW hcnd hsz _
  have hval : ∀ (j : Nat) t v, Tryz.f10.params[j]? = some t → args[j]? = some v → Value.okWide Tryz.prog W .any base t v := hval0
  have hW' := hW
  obtain ⟨p, q, hA0, hV, rfl, hfz, hnd⟩ := hW
  have hA : DataW.TrodAll enc Tryz.prog W 0 (fun _ => true) true Tryz.f10.params.toList args.toList ds p := hA0
  rw [Tryz.params10] at hA hval
  obtain ⟨v0, vs0, d0, ds0, p0, q0, hargs, rfl, rfl, h0, r0⟩ := trodAll_cons hA
  obtain ⟨v1, vs1, d1, ds1, p1, q1, rfl, rfl, rfl, h1, r1⟩ := trodAll_cons r0
  obtain ⟨v2, vs2, d2, ds2, p2, q2, rfl, rfl, rfl, h2, r2⟩ := trodAll_cons r1
  obtain ⟨rfl, rfl, rfl⟩ := trodAll_nil r2
  obtain rfl : args = #[v0, v1, v2] := by cases args; simp_all
  obtain ⟨rfl, rfl⟩ := trodVars_none hV
  have hlt := fun x hx => hW'.lt x hx
  have t0 := h0
  obtain ⟨A0, n0, c0, x0, rfl, e0, s0⟩ := cb.open_acts (hval 0 22 v0 rfl rfl) h0
  have t1 := h1
  obtain ⟨n1, rfl⟩ := open_node (hval 1 24 v1 rfl rfl) h1
  obtain ⟨a2, rfl, rfl, rfl, w2⟩ := open_string Tryz.underlying9 (hval 2 9 v2 rfl rfl) h2
  have b2 : a2.size ≤ 140737488351232 := by
    have := sized_string hsz (j := 2) (t := 9) rfl rfl
    simpa [reachBytes] using this
  clear hA0 hval0
  refine (walk A0 n0 c0 x0 n1 a2 W e0 s0 b2).mono fun e W' ⟨he, hg⟩ => ?_
  subst he
  exact ⟨_, rfl, cb.law_post (pv := []) hW' (fun _ _ _ => (trodAll_cons_mk (shut_bool Tryz.underlying4 _) trodAll_mk0)) (fun sp hsp => (trodAll_cons_mk (cb.arg_stays t0 hg (by simp +contextual) hlt hsp laid) (trodAll_cons_mk (node_stays t1 hg (by simp +contextual) hlt hsp laid) (trodAll_cons_mk (shut_string Tryz.underlying9 w2) trodAll_mk0)))) (fun _ _ => rfl) (by simp)
    hg (ok_one (by kernel_rfl) rfl (okWide_bool_mk Tryz.underlying4 _))⟩

theorem over : Rows.mergeAsksRow.holds Tryz.pinned (OpenSpec.ofChange Rows.mergeAsksSpec) :=
  OpenClaim.holds_of_wide 10 Tryz.f10 rfl rfl rfl rfl rfl rfl rfl ⟨rfl, rfl, rfl, rfl, rfl⟩ rfl rfl rfl rfl rfl (by kernel_rfl) Tryz.func10 (by kernel_rfl)
    (of_decide_eq_true (by kernel_rfl)) (by unfold Func.isWrapper; first | (rw [if_pos (by decide +kernel)]; kernel_rfl) | (rw [if_neg (by decide +kernel)]; exact ⟨rfl, rfl⟩))
    (fun os started H enc _ => lifted os started H enc)

/-- The statement. -/
theorem proved : Rows.MergeAsksSaid :=
  over
end Go.Proofs.YtkbdmjcdhkdanaaGreat.mergeAsks
