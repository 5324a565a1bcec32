/- For every room, every list of acts, every name and every inode the law BranchDoes returns true, and what is handed in reads as it did; there are no conditions. -/
import Derived.Test.YtlelnpckbcpkkaaGreatZm
import Derived.Test.YtlelnpckbcpkkaaGreatZn
import Derived.Test.YtlelnpckbcpkkaaGreatZt
import Derived.Test.YtlelnpckbcpkkaaGreatLk
import Derived.Test.YtlelnpckbcpkkaaGreatDJ
import Derived.Deep.RegionWith
import Derived.Deep.QuietTactic
import Derived.BigQuiet
import Derived.ProofKit
import Derived.OpenShut
import Derived.ShutString
namespace Go.Proofs.YtlelnpckbcpkkaaGreat.branchDoes
open Go.ChangeShapes Go.WideShapes Go.ChangeAt Go.RowKit
open Go.ChangeMaps (open_string shut_string)
open Go.Proofs.YtlelnpckbcpkkaaGreat.cb
set_option linter.unusedVariables false

theorem own : ownKnob Tryz.prog.godebug = none := by kernel_rfl
theorem laid : laidOutB Tryz.prog = true := by kernel_rfl

open Go.Proofs.YtlelnpckbcpkkaaGreat.br
open Go.Proofs.YtlelnpckbcpkkaaGreat.bl (Pq)

theorem below_of_drew {w w' : World} (h : Below w.drew.heap.size w.drew w') : Below w.heap.size w w' := (Below.drew (Below.refl _ _)).trans h
theorem t_used {w0 w : World} {P D RS room T : Nat} {X : Nat → Prop} {S : BS} (h : Two w0 w P D RS X S S room T) : Calls Tryz.prog 19 #[Pq P] w (fun e w' => e = .returned (.int .i64 (S.used : Int)) ∧ w' = w) := by
  obtain ⟨pl, tg, h1, h2, h3⟩ := h
  exact x_used h1
theorem t_inodes {w0 w : World} {P D RS room T : Nat} {X : Nat → Prop} {S : BS} (h : Two w0 w P D RS X S S room T) : Calls Tryz.prog 20 #[Pq P] w (fun e w' => e = .returned (.int .i64 (S.count 200 : Int)) ∧ w' = w) := by
  obtain ⟨pl, tg, h1, h2, h3⟩ := h
  exact x_inodes h1
theorem t_rinodes {w0 w : World} {P D RS room T : Nat} {X : Nat → Prop} {S : BS} (h : Two w0 w P D RS X S S room T) : Calls Tryz.prog 21 #[Pq D] w (fun e w' => e = .returned (.int .i64 (S.count 200 : Int)) ∧ w' = w) := by
  obtain ⟨pl, tg, h1, h2, h3⟩ := h
  exact q_inodes h2
theorem t_cells {w0 w : World} {P D RS room T : Nat} {X : Nat → Prop} {S : BS} (h : Two w0 w P D RS X S S room T) : w.cell? ⟨D, 0, none⟩ = some (Pq RS) ∧ w.cell? ⟨RS, 1, none⟩ = some (.int .i64 (S.used : Int)) := by
  obtain ⟨pl, tg, h1, h2, h3⟩ := h
  exact ⟨h2.c0, h2.sto.c1⟩

set_option maxHeartbeats 4000000 in
set_option maxRecDepth 100000 in
theorem walk (r : Int) (A : Option Addr) (n c : Nat) (F : Nat → Act7) (s : ByteArray) (i : Int) (w : World) (k1 : n ≤ c ∧ c ≤ maxLen) (hF : Acts w w.heap.size A n F) (ws : s.size ≤ maxLen) :
    Calls Tryz.prog 3 #[.int .i64 r, .slice A n c, .string s, .int .i64 i] w (AwakeE w) := by
  have hnm : n ≤ 9223372036854775807 := Nat.le_trans k1.1 k1.2
  have HA := Lib.hid hF
  have HAW := Lib.hid (awake_any w)
  clear k1 hF ws
  by_cases hr : r < 0 ∨ 65536 < r
  · have HN := Lib.hid (fun w1 => new_no r w1 hr)
    have HM := Lib.hid (fun w1 => rb_new_no r w1 hr)
    clear hr HA hnm
    go_enter Tryz.func3, Tryz.ntmps3
    go_wp2_with fail
    refine HAW.out.mono ?_
    rintro e w1 ⟨rfl, hb1⟩
    go_wp2_with fail
    refine (HN.out _).mono ?_
    rintro e w2 ⟨rfl, rfl⟩
    go_wp2_with fail
    refine (HM.out _).mono ?_
    rintro e w3 ⟨rfl, rfl⟩
    go_wp2_with fail
    go_ret
    exact ⟨rfl, hb1⟩
  · obtain ⟨room, rfl⟩ : ∃ room : Nat, r = (room : Int) := ⟨r.toNat, by omega⟩
    have HN := Lib.hid (fun w1 (hb : Below w.heap.size w w1) => x_new (w0 := w) (w := w1) room (by omega) hb)
    have HM := Lib.hid (fun w2 (hlo : w.heap.size ≤ w2.heap.size) => rb_new room w.heap.size w2 (by omega) hlo)
    clear hr
    go_enter Tryz.func3, Tryz.ntmps3
    go_wp2_with fail
    refine HAW.out.mono ?_
    rintro e w1 ⟨rfl, hb1⟩
    have HN2 := Lib.hid (HN.out w1 hb1)
    clear HN hb1 HAW
    go_wp2_with fail
    refine HN2.out.mono ?_
    rintro e w2 ⟨P, rfl, h2, -, -⟩
    have HM2 := Lib.hid (HM.out w2 h2.bel.size)
    have H2 := Lib.hid h2
    clear h2 HN2 HM
    go_wp2_with fail
    refine HM2.out.mono ?_
    rintro e w3 ⟨D, RS, pl, tg, rfl, h3, hb3, ht3⟩
    have H3 := Lib.hid (Two.start H2.out h3 hb3 ht3)
    clear h3 hb3 ht3 HM2 H2
    go_wp2_with fail
    go_loopg [11] 80 (fun g s11 wr => ∃ (k : Nat) (S : BS), g + k = 80 ∧ k ≤ n ∧ s11 = .int .i64 k ∧ Hid (Two w wr P D RS No S S room k))
    case atStart => exact ⟨0, fresh, by omega, by omega, rfl, H3⟩
    case round =>
      clear H3
      obtain ⟨k, S, hgk, hk, rfl, HD⟩ := hrel
      by_cases hgo : k < n ∧ k < 80
      · obtain ⟨hkn, hk2⟩ := hgo
        have hbr := HD.out.bel
        obtain ⟨b, off, rfl, hbl, f0, f1, f2, f3, f4, f5, f6, hsa, hsb⟩ := (HA.out.below hbr) k hkn
        have HA7 : (F k).a.size ≤ 9223372036854775807 := hsa
        have HL := Lib.hid (fun w => large_any (F k) w hsb)
        have hblr : b < wr.heap.size := Nat.lt_of_lt_of_le hbl hbr.size
        have hlb : largeB (F k) = false → (F k).b.size ≤ 4096 := fun h => by
          unfold largeB at h
          simp at h
          exact h.1
        generalize F k = x at *
        generalize hlg : largeB x = lg at *
        obtain ⟨xk, xd, xt, xn, xa, xb, xo⟩ := x
        dsimp only at f0 f1 f2 f3 f4 f5 f6 HA7 HL hlb
        clear hsa hsb hbr hlg
        go_wp2_with fail
        refine (HL.out _).mono ?_
        rintro e w2 ⟨rfl, hb2⟩
        obtain ⟨b0, b1, b2, b3, b4, b5, b6⟩ := box7 _ _ _ _ _ _ _ _ _ _ hb2
        have H4 := Lib.hid (HD.out.box (Y := fun b => b = wr.heap.size) ((dn.below_alloc wr _).trans (hb2.mono (by rw [World.size_alloc]; omega))) (fun b hb => .inr (by
          have h1 := World.block_lt_of_cell? _ _ b0
          have h2 : wr.heap.size < w2.heap.size := h1
          omega)))
        generalize wr.heap.size = G at *
        clear hb2 HL HD f0 f1 f2 f3 f4 f5 f6 hbl hblr HA
        cases lg with
        | true =>
          go_wp2_with fail
          try rw [Exit.noGoto_ret]
          go_ret
          exact ⟨rfl, H4.out.bel⟩
        | false =>
          have hb4 := hlb rfl
          clear hlb
          have hGl : G < w2.heap.size := World.block_lt_of_cell? _ _ b0
          have HG1 := Lib.hid (two_get H4.out xd s)
          have HG2 := Lib.hid (fun W (h : Two w W P D RS (fun b => b = G) S S room k) => two_rget h xd s)
          unfold RetW at HG1
          unfold RetQ at HG2
          generalize S.get xd s = gp at HG1 HG2
          obtain ⟨g1, g2⟩ := gp
          dsimp only at HG1 HG2
          go_wp2_with fail
          refine HG1.out.mono ?_
          rintro e w5 ⟨rfl, hb5⟩
          have H5 := Lib.hid (H4.out.below hb5)
          have c0 := (hb5.cell (p := ⟨G, 0, none⟩) hGl).trans b0
          have c1 := (hb5.cell (p := ⟨G, 1, none⟩) hGl).trans b1
          have c2 := (hb5.cell (p := ⟨G, 2, none⟩) hGl).trans b2
          have c3 := (hb5.cell (p := ⟨G, 3, none⟩) hGl).trans b3
          have c4 := (hb5.cell (p := ⟨G, 4, none⟩) hGl).trans b4
          have c5 := (hb5.cell (p := ⟨G, 5, none⟩) hGl).trans b5
          have c6 := (hb5.cell (p := ⟨G, 6, none⟩) hGl).trans b6
          have HG3 := Lib.hid (HG2.out _ H5.out)
          have HS := Lib.hid (step_any H5.out (by omega) xk xd xt xn xa xb xo HA7 hb4)
          unfold StepE at HS
          clear hb5 H4 H5 HG1 HG2 b0 b1 b2 b3 b4 b5 b6 hGl HA7 hb4
          go_wp2_with fail
          refine HG3.out.mono ?_
          rintro e w6 ⟨rfl, rfl⟩
          go_wp2_with fail
          refine HS.out.mono ?_
          rintro e w7 ⟨rfl, S', h7, hs7⟩
          have d1 := (World.cell?_of_block (a := ⟨G, 1, none⟩) (hs7 G rfl)).trans c1
          have d2 := (World.cell?_of_block (a := ⟨G, 2, none⟩) (hs7 G rfl)).trans c2
          obtain ⟨d3, d4⟩ := t_cells h7
          have l1 := World.block_lt_of_cell? _ _ d1
          have l3 := World.block_lt_of_cell? _ _ d3
          have l4 := World.block_lt_of_cell? _ _ d4
          have HO := Lib.hid (fun W (hb : Below w7.heap.size w7 W) i => (h7.below hb).one i)
          have HU := Lib.hid (fun W (hb : Below w7.heap.size w7 W) => t_used (h7.below hb))
          have HI := Lib.hid (fun W (hb : Below w7.heap.size w7 W) => t_inodes (h7.below hb))
          have HJ := Lib.hid (fun W (hb : Below w7.heap.size w7 W) => t_rinodes (h7.below hb))
          have H7 := Lib.hid h7.forget
          unfold dn.RetB at HO
          generalize ((S'.used : Nat) : Int) = us at HU d4
          generalize ((S'.count 200 : Nat) : Int) = cn at HI HJ
          clear hs7 h7 c0 c1 c2 c3 c4 c5 c6 HS HG3
          go_upto_region 17 with fail
          go_region_held3 (fun w' => w'.cell? ⟨G, 1, none⟩ = some (.int .i64 xd) ∧ w'.cell? ⟨G, 2, none⟩ = some (.int .i64 xt) ∧ w'.cell? ⟨D, 0, none⟩ = some (Pq RS) ∧ w'.cell? ⟨RS, 1, none⟩ = some (.int .i64 us))
            (first | exact ⟨d1, d2, d3, d4⟩ | exact ⟨m1, m2, m3, m4⟩ | exact ⟨n1, n2, n3, n4⟩ | exact ⟨o1, o2, o3, o4⟩ | assumption | go_keep)
            (first
            | (go_at_call 18; ((with_reducible refine (HO.out _ (Below.refl _ _).drew xd).mono ?_); rintro e wa ⟨rfl, hba⟩; have q1 := below_of_drew hba; have m1 := (q1.cell (p := ⟨G, 1, none⟩) l1).trans d1; have m2 := (q1.cell (p := ⟨G, 2, none⟩) l1).trans d2; have m3 := (q1.cell (p := ⟨D, 0, none⟩) l3).trans d3; have m4 := (q1.cell (p := ⟨RS, 1, none⟩) l4).trans d4))
            | (go_at_call 18; ((with_reducible refine (HO.out _ q1 xt).mono ?_); rintro e wb ⟨rfl, hbb⟩; have q2 := dn.below_step q1 hbb; have n1 := (q2.cell (p := ⟨G, 1, none⟩) l1).trans d1; have n2 := (q2.cell (p := ⟨G, 2, none⟩) l1).trans d2; have n3 := (q2.cell (p := ⟨D, 0, none⟩) l3).trans d3; have n4 := (q2.cell (p := ⟨RS, 1, none⟩) l4).trans d4))
            | (go_at_call 18; ((with_reducible refine (HO.out _ q2 i).mono ?_); rintro e wc ⟨rfl, hbc⟩; have q3 := dn.below_step q2 hbc; have o1 := (q3.cell (p := ⟨G, 1, none⟩) l1).trans d1; have o2 := (q3.cell (p := ⟨G, 2, none⟩) l1).trans d2; have o3 := (q3.cell (p := ⟨D, 0, none⟩) l3).trans d3; have o4 := (q3.cell (p := ⟨RS, 1, none⟩) l4).trans d4))
            | (go_at_call 19; ((with_reducible refine (HU.out _ q3).mono ?_); rintro e wd ⟨rfl, rfl⟩))
            | (go_at_call 20; ((with_reducible refine (HI.out _ q3).mono ?_); rintro e we ⟨rfl, rfl⟩))
            | (go_at_call 21; ((with_reducible refine (HJ.out _ q3).mono ?_); rintro e wf ⟨rfl, rfl⟩)))
          all_goals
            have H8 := Lib.hid (H7.out.below q3)
            clear d1 d2 d3 d4 m1 m2 m3 m4 n1 n2 n3 n4 o1 o2 o3 o4 q1 q2 q3 hba hbb hbc HO HU HI HJ H7
            go_wp2_with fail
            go_roundg (gk - 1)
            case measure => omega
            case rel => exact ⟨k + 1, S', by omega, by omega, by go_num, H8⟩
      · have hsplit : (k < n ∧ k = 80) ∨ ¬ k < n := by omega
        have HO := Lib.hid (fun W (hb : Below wr.heap.size wr W) i => (HD.out.below hb).one i)
        have HBL := Lib.hid HD.out.bel
        unfold dn.RetB at HO
        clear hgo HD HA
        rcases hsplit with ⟨hkn, rfl⟩ | hkn
        all_goals
          go_wp2_with fail
          go_loopg [17] 202 (fun g s17 wy => ∃ j : Nat, g + j = 202 ∧ s17 = .int .i64 j ∧ Hid (Below wr.heap.size wr wy))
          case atStart => exact ⟨0, by omega, rfl, Lib.hid (Below.refl _ _)⟩
          case round =>
            obtain ⟨j, hgj, rfl, HBY⟩ := hrel
            by_cases hj : j < 202
            · have hj2 : (j : Int) ≤ 201 := by omega
              have HO2 := Lib.hid (HO.out _ HBY.out (j : Int))
              go_wp2_with fail
              refine HO2.out.mono ?_
              rintro e w5 ⟨rfl, hb5⟩
              have HB5 := Lib.hid (dn.below_step HBY.out hb5)
              clear hb5 HO2 hj2
              go_wp2_with fail
              go_roundg (gk - 1)
              case measure => omega
              case rel => exact ⟨j + 1, by omega, by go_num, HB5⟩
            · have hj2 : ¬ ((j : Int) ≤ 201) := by omega
              clear hj
              go_wp2_with fail
              go_ret
              exact ⟨rfl, dn.below_step HBL.out HBY.out⟩

set_option maxRecDepth 100000 in
theorem lifted (os : Os) (started : os.Started) (H : Type) (enc : TypeId × Value → H) :
    ReturnsInHanded {} Tryz.checked os 3 .any (Rows.branchDoesSpec.pre6 enc Tryz.prog Tryz.f3 Rows.branchDoesRow.domain false) (Rows.branchDoesSpec.post enc Tryz.prog Tryz.f3 false true false false) := by
  refine returnsInHanded_of_change (C := Tryz.checked) own started (by kernel_rfl) Tryz.func3
    (ChangeSpec.witness6 (enc := enc) (C := Tryz.checked) false ⟨#[], #[.int .i64 0, .slice none 0 0, .string ByteArray.empty, .int .i64 0], []⟩ 8 (by kernel_rfl) (by kernel_rfl) (by kernel_rfl) (by kernel_rfl)) ?_
  intro W base args ds gs before hval0 hW hcnd _
  have hval : ∀ (j : Nat) t v, Tryz.f3.params[j]? = some t → args[j]? = some v → Value.okWide Tryz.prog W .any base t v := hval0
  have hW' := hW
  obtain ⟨p, q, hA0, hV, rfl, hfz, hnd⟩ := hW
  have hA : DataW.TrodAll enc Tryz.prog W 0 (fun _ => true) true Tryz.f3.params.toList args.toList ds p := hA0
  rw [Tryz.params3] at hA hval
  obtain ⟨v0, vs0, d0, ds0, p0, q0, hargs, rfl, rfl, h0, r0⟩ := trodAll_cons hA
  obtain ⟨v1, vs1, d1, ds1, p1, q1, rfl, rfl, rfl, h1, r1⟩ := trodAll_cons r0
  obtain ⟨v2, vs2, d2, ds2, p2, q2, rfl, rfl, rfl, h2, r2⟩ := trodAll_cons r1
  obtain ⟨v3, vs3, d3, ds3, p3, q3, rfl, rfl, rfl, h3, r3⟩ := trodAll_cons r2
  obtain ⟨rfl, rfl, rfl⟩ := trodAll_nil r3
  obtain rfl : args = #[v0, v1, v2, v3] := by cases args; simp_all
  obtain ⟨rfl, rfl⟩ := trodVars_none hV
  have hlt := fun x hx => hW'.lt x hx
  obtain ⟨a0, rfl, rfl, rfl, w0⟩ := open_int Tryz.underlying3 (hval 0 3 v0 rfl rfl) h0
  have t1 := h1
  obtain ⟨A1, n1, c1, x1, rfl, e1, s1⟩ := open_acts (hval 1 22 v1 rfl rfl) h1
  obtain ⟨a2, rfl, rfl, rfl, w2⟩ := open_string Tryz.underlying9 (hval 2 9 v2 rfl rfl) h2
  obtain ⟨a3, rfl, rfl, rfl, w3⟩ := open_int Tryz.underlying3 (hval 3 3 v3 rfl rfl) h3
  clear hA0 hval0
  refine (walk a0 A1 n1 c1 x1 a2 a3 W e1 s1 w2).mono fun e W' ⟨he, hg⟩ => ?_
  subst he
  exact ⟨_, rfl, law_post (pv := []) hW' (fun _ _ _ => (trodAll_cons_mk (shut_bool Tryz.underlying4 _) trodAll_mk0)) (fun sp hsp => (trodAll_cons_mk (shut_int Tryz.underlying3 w0) (trodAll_cons_mk (arg_stays t1 hg (by simp +contextual) hlt hsp laid) (trodAll_cons_mk (shut_string Tryz.underlying9 w2) (trodAll_cons_mk (shut_int Tryz.underlying3 w3) trodAll_mk0))))) (fun _ _ => rfl) (by simp)
    hg (ok_one (by kernel_rfl) rfl (okWide_bool_mk Tryz.underlying4 _))⟩

theorem over : Rows.branchDoesRow.holds Tryz.pinned (OpenSpec.ofChange Rows.branchDoesSpec) :=
  OpenClaim.holds_of_wide 3 Tryz.f3 rfl rfl rfl rfl rfl rfl rfl ⟨rfl, rfl, rfl, rfl, rfl⟩ rfl rfl rfl rfl rfl (by kernel_rfl) Tryz.func3 (by kernel_rfl)
    (of_decide_eq_true (by kernel_rfl)) (by unfold Func.isWrapper; first | (rw [if_pos (by decide +kernel)]; kernel_rfl) | (rw [if_neg (by decide +kernel)]; exact ⟨rfl, rfl⟩))
    (fun os started H enc _ => lifted os started H enc)

/-- The statement. -/
theorem proved : Rows.BranchDoesSaid :=
  over
end Go.Proofs.YtlelnpckbcpkkaaGreat.branchDoes
