/- For any lines and any room: the awake calls hold; if the lines are too large, nothing is asked; if they make no branch, none is handed back; else the branch has an inode for each line and the root, as many chunks in use as the files' data need, no more than the room, and the lines make a branch with just so much room, and none with one chunk less. No condition. -/
import Derived.Test.YtnnaoldpacbagaaGreatRows
import Derived.Test.YtnnaoldpacbagaaGreatZ32
import Derived.Test.YtnnaoldpacbagaaGreatZ33
import Derived.Deep.RegionWith
import Derived.Deep.LoopGhost
import Derived.StillTailTactics
import Derived.Deep.QuietTactic
import Derived.BigQuiet
import Derived.ProofKit
import Derived.OpenShut
import Derived.ShutString
import Derived.SizedLaws
namespace Go.Proofs.YtnnaoldpacbagaaGreat.flatMany
open Go.ChangeShapes Go.WideShapes Go.ChangeAt Go.RowKit
open Go.ChangeMaps (open_string shut_string)
open Go.Proofs.YtnnaoldpacbagaaGreat.fl
open Go.Proofs.YtnnaoldpacbagaaGreat.cb (RetW RetI BrX)
open Go.Proofs.YtnnaoldpacbagaaGreat.br (BS fresh)
open Go.Proofs.YtnnaoldpacbagaaGreat.bl (Pq)
set_option linter.unusedVariables false
set_option linter.unusedSimpArgs false

theorem own : ownKnob Tryz.prog.godebug = none := by kernel_rfl
theorem laid : laidOutB Tryz.prog = true := by kernel_rfl

theorem quo16 (n : Nat) (h : n ≤ 131072) : Int.tdiv ((n : Int) + 16 - 1) 16 = (nch n : Int) := by
  rw [Int.tdiv_eq_ediv_of_nonneg (by omega)]
  unfold nch
  omega
set_option maxRecDepth 100000 in
set_option maxHeartbeats 8000000 in
theorem walk (A0 : Option Addr) (c0 : Nat) (l : List Ln) (room : Int) (w : World) (hl0 : l.length ≤ c0 ∧ c0 ≤ maxLen) (hr0 : LR w w.heap.size A0 l) (hz0 : ∀ x ∈ l, x.path.size ≤ maxLen ∧ x.data.size ≤ maxLen) :
    Calls Tryz.prog 7 #[.slice A0 l.length c0, .int .i64 room] w (fun e w' => e = .returned (.bool true) ∧ Below w.heap.size w w') := by
  have HA := Lib.hid (awake_any w)
  have m0 : l.length ≤ maxLen := Nat.le_trans hl0.1 hl0.2
  have R0 := Lib.hid (fun W (hb : Below w.heap.size w W) => hr0.below (Nat.le_refl _) hb)
  have HL0 := Lib.hid (fun W (hb : Below w.heap.size w W) => large_any (c := c0) (R0.out W hb) hb.size m0 hz0)
  have HTR := Lib.hid (fun W (hb : Below w.heap.size w W) (h1 : l.length ≤ 301) (h2 : sumS l ≤ 131072) (rm : Int) => tree_any (c := c0) (R0.out W hb) hb.size (by omega) (fun x hx => by have := sum_mem hx; omega) rm)
  unfold AwakeE at HA
  unfold LargeE at HL0
  obtain ⟨m, hm⟩ : ∃ n, l.length = n := ⟨_, rfl⟩
  have HM := Lib.hid hm
  rw [hm] at HL0 HTR ⊢
  have HRR := Lib.hid hr0
  clear hl0 hr0 hz0 m0 R0 hm
  go_enter Tryz.func7, Tryz.ntmps7
  go_wp2_with fail
  refine HA.out.mono ?_
  rintro _ w1 ⟨rfl, hb1⟩
  have HB1 := Lib.hid hb1
  clear hb1 HA
  have HP := Lib.hid (HL0.out w1 HB1.out)
  go_wp2_with fail
  refine HP.out.mono ?_
  rintro _ w2 ⟨q0, rfl, hb2, h0⟩
  have HB2 := Lib.hid (HB1.out.trans (hb2.mono HB1.out.size))
  have H0 := Lib.hid h0
  clear hb2 h0 HP HL0
  cases q0 with
  | true =>
    go_wp2_with fail
    go_ret
    exact ⟨rfl, HB2.out⟩
  | false =>
    obtain ⟨hm1, hsz⟩ := H0.out (by first | rfl | trivial)
    have HSZ := Lib.hid hsz
    have HT := Lib.hid (fun W (hb : Below w.heap.size w W) rm => HTR.out W hb hm1 HSZ.out rm)
    clear H0 hsz HTR
    have HP := Lib.hid (HT.out w2 HB2.out room)
    go_wp2_with fail
    refine HP.out.mono ?_
    intro e w3 h3
    clear HP
    rcases h3 with ⟨_, rfl, hb3⟩ | ⟨R, rfl, hR, ⟨err, he, _, _, rfl, hb3⟩ | ⟨P, S, hS, rfl, hB3⟩⟩
    · have HB3 := Lib.hid (HB2.out.trans (hb3.mono HB2.out.size))
      clear hb3
      go_wp2_with fail
      go_ret
      exact ⟨rfl, HB3.out⟩
    · have HB3 := Lib.hid (HB2.out.trans (hb3.mono HB2.out.size))
      have q1 : (err != 0) = true := by simpa using he
      clear hb3
      go_wp2_with fail
      go_ret
      exact ⟨rfl, HB3.out⟩
    · have HB3 := Lib.hid (HB2.out.trans (hB3.bel.mono HB2.out.size))
      have HX := Lib.hid hB3
      have HTF := Lib.hid (tree_facts hR (Go.Proofs.YtnnaoldpacbagaaGreat.br.Good.fresh 65536) hS)
      have HUS := Lib.hid (show S.used = cks l by have := HTF.out.used; rw [fresh_used] at this; omega)
      have HCN := Lib.hid (show S.count 200 = m + 1 by have := HTF.out.count; rw [fresh_count, HM.out] at this; omega)
      have HRM := Lib.hid (show cks l ≤ R by rw [← HUS.out]; exact hB3.good.1.room)
      have hcr : cks l ≤ 65536 := by have := HRM.out; omega
      have HGL := Lib.hid (show ∀ j, j < m → ∃ x, l[j]? = some x from fun j hj => ⟨l[j]'(by have := HM.out; omega), List.getElem?_eq_getElem _⟩)
      clear hB3 hS
      go_upto_region 10 with fail
      go_loopg [7, 29] m (fun gh s7 s29 wr => ∃ (j : Nat), gh + j = m ∧ s7 = .int .i64 (cks (l.take j) : Int) ∧ s29 = .int .i64 j ∧ wr = w3)
      case atStart => exact ⟨0, by omega, rfl, rfl, rfl⟩
      case round =>
        obtain ⟨j, hgj, rfl, rfl, rfl⟩ := hrel
        by_cases hj : j < m
        · obtain ⟨x, hx⟩ := HGL.out j hj
          have HCT := Lib.hid (cks_take hx)
          have hcl := cks_le l j
          have hcl2 := cks_le l (j + 1)
          have hxs : x.data.size ≤ 131072 := by have := sum_mem (List.mem_of_getElem? hx); have := HSZ.out; omega
          obtain ⟨b, off, hA, hbB, c0', c1, c2⟩ := HRR.out j x hx
          subst hA
          have hsm := HB3.out.block b hbB
          replace c1 := (World.cell?_of_block (a := ⟨b, off + j * 3 + 1, none⟩) hsm).trans c1
          replace c2 := (World.cell?_of_block (a := ⟨b, off + j * 3 + 2, none⟩) hsm).trans c2
          have hq := quo16 x.data.size hxs
          obtain ⟨xp, xk, xd⟩ := x
          dsimp only at c1 c2 hxs hq
          have HCK := Lib.hid (show ck ⟨xp, xk, xd⟩ = if xk = 1 then nch xd.size else 0 from rfl)
          obtain ⟨cn, hcn⟩ : ∃ n, cks (l.take j) = n := ⟨_, rfl⟩
          rw [hcn] at HCT hcl ⊢
          rw [HCT.out] at hcl2
          obtain ⟨xs, hxe⟩ : ∃ n, xd.size = n := ⟨_, rfl⟩
          rw [hxe] at hxs hq HCK
          clear hx c0' hsm hbB hcn
          by_cases hk : xk = 1
          · subst hk
            have hck := HCK.out
            rw [if_pos rfl] at hck
            rw [hck] at HCT hcl2
            obtain ⟨nx, hnx⟩ : ∃ n, nch xs = n := ⟨_, rfl⟩
            rw [hnx] at HCT hcl2 hq
            clear hnx hck HCK
            go_wp2_with fail
            go_roundg (gk - 1)
            case measure => omega
            case rel => exact ⟨j + 1, by omega, by rw [HCT.out, Int.natCast_add], by go_num, rfl⟩
          · have hk1 : (xk == 1) = false := by simpa using hk
            have hck := HCK.out
            rw [if_neg hk] at hck
            rw [hck] at HCT hcl2
            clear hck HCK hq hxe
            go_wp2_with fail
            go_roundg (gk - 1)
            case measure => omega
            case rel => exact ⟨j + 1, by omega, by rw [HCT.out, Nat.add_zero], by go_num, rfl⟩
        · obtain rfl : j = m := by omega
          have hE : l.take j = l := List.take_of_length_le (by rw [HM.out]; exact Nat.le_refl _)
          rw [hE]
          clear hE
          obtain ⟨N, hN⟩ : ∃ N, cks l = N := ⟨_, rfl⟩
          rw [hN] at HUS HRM hcr ⊢
          have HP := Lib.hid (HT.out wr HB3.out (N : Int))
          clear hN
          go_wp2_with fail
          refine HP.out.mono ?_
          intro e w4 h4
          clear HP
          obtain ⟨P4, rfl, hb4⟩ : ∃ P4 : Nat, e = .returned (.tuple #[Pq P4, .int .i64 0]) ∧ Below wr.heap.size wr w4 := by
            rcases h4 with ⟨hh, _⟩ | ⟨R', hR', _, ⟨err, _, hh, _⟩ | ⟨P4, S4, hh, h5, h6⟩⟩
            · omega
            · exfalso
              rw [HTF.out.yes R' (by have := HUS.out; omega)] at hh; cases hh
            · exact ⟨P4, h5, h6.bel⟩
          clear h4
          have HB4 := Lib.hid (HB3.out.trans (hb4.mono HB3.out.size))
          have HX4 := Lib.hid (HX.out.below hb4)
          clear hb4 HX
          have HP := Lib.hid (HT.out w4 HB4.out ((N : Int) - 1))
          go_wp2_with fail
          refine HP.out.mono ?_
          intro e w5 h5
          clear HP
          obtain ⟨err, he, rfl, hb5⟩ : ∃ err : Int, err ≠ 0 ∧ e = .returned (.tuple #[.pointer none, .int .i64 err]) ∧ Below w4.heap.size w4 w5 := by
            rcases h5 with ⟨hh, h6, h7⟩ | ⟨R', hR', _, ⟨err, h6, hh, _, h7, h8⟩ | ⟨P4, S4, hh, h6, h7⟩⟩
            · exact ⟨22, by decide, h6, h7⟩
            · exact ⟨err, h6, h7, h8⟩
            · exfalso
              rw [HTF.out.no R' (by have := HUS.out; omega) (by rw [fresh_used]; omega)] at hh; cases hh
          clear h5
          have q5 : (err != 0) = true := by simpa using he
          have HB5 := Lib.hid (HB4.out.trans (hb5.mono HB4.out.size))
          have HX5 := Lib.hid (HX4.out.below hb5)
          clear hb5 HX4
          have HI := Lib.hid (cb.x_inodes HX5.out)
          have HU := Lib.hid (cb.x_used HX5.out)
          rw [HCN.out] at HI
          rw [HUS.out] at HU
          have hle : (N : Int) ≤ (R : Int) := by have := HRM.out; omega
          go_wp2_with fail
          refine HI.out.mono ?_
          rintro _ w6 ⟨rfl, rfl⟩
          go_wp2_with fail
          refine HU.out.mono ?_
          rintro _ w7 ⟨rfl, rfl⟩
          go_wp2_with fail
          go_ret
          exact ⟨rfl, HB5.out⟩

set_option maxRecDepth 100000 in
theorem lifted (os : Os) (started : os.Started) (H : Type) (enc : TypeId × Value → H) :
    ReturnsInHanded {} Tryz.checked os 7 .any (Rows.flatManySpec.pre6 enc Tryz.prog Tryz.f7 Rows.flatManyRow.domain false) (Rows.flatManySpec.post enc Tryz.prog Tryz.f7 false true false false) := by
  refine returnsInHanded_of_change_sized (C := Tryz.checked) own started (by kernel_rfl) Tryz.func7
    (ChangeSpec.witness6 (enc := enc) (C := Tryz.checked) false ⟨#[], #[.slice none 0 0, .int .i64 0], []⟩ 8 (by kernel_rfl) (by kernel_rfl) (by kernel_rfl) (by kernel_rfl)) ?_
  intro W base args ds gs before hval0 hW hcnd hsz _
  have hval : ∀ (j : Nat) t v, Tryz.f7.params[j]? = some t → args[j]? = some v → Value.okWide Tryz.prog W .any base t v := hval0
  have hW' := hW
  obtain ⟨p, q, hA0, hV, rfl, hfz, hnd⟩ := hW
  have hA : DataW.TrodAll enc Tryz.prog W 0 (fun _ => true) true Tryz.f7.params.toList args.toList ds p := hA0
  rw [Tryz.params7] at hA hval
  obtain ⟨v0, vs0, d0, ds0, p0, q0, hargs, rfl, rfl, h0, r0⟩ := trodAll_cons hA
  obtain ⟨v1, vs1, d1, ds1, p1, q1, rfl, rfl, rfl, h1, r1⟩ := trodAll_cons r0
  obtain ⟨rfl, rfl, rfl⟩ := trodAll_nil r1
  obtain rfl : args = #[v0, v1] := by cases args; simp_all
  obtain ⟨rfl, rfl⟩ := trodVars_none hV
  have hlt := fun x hx => hW'.lt x hx
  have t0 := h0
  obtain ⟨A0, c0, l0, rfl, e0, s0, z0⟩ := fl.open_lines (hval 0 70 v0 rfl rfl) h0
  obtain ⟨a1, rfl, rfl, rfl, w1⟩ := open_int Tryz.underlying3 (hval 1 3 v1 rfl rfl) h1
  clear hA0 hval0
  refine (walk A0 c0 l0 a1 W e0 s0 z0).mono fun e W' ⟨he, hg⟩ => ?_
  subst he
  exact ⟨_, rfl, cb.law_post (pv := []) hW' (fun _ _ _ => (trodAll_cons_mk (shut_bool Tryz.underlying4 _) trodAll_mk0)) (fun sp hsp => (trodAll_cons_mk (fl.lines_stay t0 hg (by simp +contextual) hlt hsp laid) (trodAll_cons_mk (shut_int Tryz.underlying3 w1) trodAll_mk0))) (fun _ _ => rfl) (by simp)
    hg (ok_one (by kernel_rfl) rfl (okWide_bool_mk Tryz.underlying4 _))⟩

theorem over : Rows.flatManyRow.holds Tryz.pinned (OpenSpec.ofChange Rows.flatManySpec) :=
  OpenClaim.holds_of_wide 7 Tryz.f7 rfl rfl rfl rfl rfl rfl rfl ⟨rfl, rfl, rfl, rfl, rfl⟩ rfl rfl rfl rfl rfl (by kernel_rfl) Tryz.func7 (by kernel_rfl)
    (of_decide_eq_true (by kernel_rfl)) (by unfold Func.isWrapper; first | (rw [if_pos (by decide +kernel)]; kernel_rfl) | (rw [if_neg (by decide +kernel)]; exact ⟨rfl, rfl⟩))
    (fun os started H enc _ => lifted os started H enc)

/-- The statement. -/
theorem proved : Rows.FlatManySaid :=
  over
end Go.Proofs.YtnnaoldpacbagaaGreat.flatMany
