/- For every list of acts and every text the law DentsDoes returns true, and what is handed in reads as it did; there are no conditions. -/
import Derived.Test.YtchjidijgdkhoaaDuo
import Derived.Deep.RegionWith
import Derived.ProofKit
import Derived.OpenShut
import Derived.ShutString
namespace Go.Proofs.Ytchjidijgdkhoaa.dentsDoes
open Go.ChangeShapes Go.WideShapes Go.ChangeAt Go.RowKit
open Go.ChangeMaps (open_string shut_string)
set_option linter.unusedVariables false

theorem own : ownKnob Try.prog.godebug = none := by kernel_rfl
theorem laid : laidOutB Try.prog = true := by kernel_rfl

open Go.Shelf

theorem below_of_drew {w w' : World} (h : Below w.drew.heap.size w.drew w') : Below w.heap.size w w' := (Below.drew (Below.refl _ _)).trans h
/-- A row of the call's own, behind lo, whatever lies in it. -/
def Raw (w : World) (lo : Nat) (A : Option Addr) (m : Nat) : Prop := 0 < m → ∃ G cap f, A = some ⟨G, 0, none⟩ ∧ lo ≤ G ∧ w.rowIs G 37 cap f ∧ m * 2 ≤ cap
theorem Raw.of_sl {w : World} {lo c : Nat} {o : Option Nat} {L : List En} (h : Sl w lo o c L) : Raw w lo (Ao o) L.length := fun hm => by
  cases o with
  | none => obtain ⟨rfl, -⟩ := h; simp at hm
  | some G =>
    obtain ⟨hlo, h1, h2, X, hX, hl, ht⟩ := h
    exact ⟨G, c * 2, fun i => X.toArray.getD i undef, rfl, hlo, ⟨X.toArray, hX, by simpa using hl, fun i hi => by simp [Array.getD_eq_getD_getElem?, List.getElem?_eq_getElem (show i < X.length by omega)]⟩, by omega⟩
theorem Raw.set {w : World} {lo G m o : Nat} {v : Value} (h : Raw w lo (some ⟨G, 0, none⟩) m) : Raw (w.setCell ⟨G, o, none⟩ v) lo (some ⟨G, 0, none⟩) m := fun hm => by
  obtain ⟨G', cap, f, e, hlo, hr, hc⟩ := h hm
  obtain rfl : G = G' := by injection e with e; injection e
  exact ⟨G, cap, _, rfl, hlo, hr.set o v, hc⟩
/-- What 'All' hands back, its number of entries named. -/
def AllN (w : World) (L : List En) (nn : Nat) (e : Ending) (w' : World) : Prop := ∃ A c', e = .returned (.slice A nn c') ∧ Reads w' w'.heap.size A L ∧ Below w.heap.size w w'
theorem AllN.of {w w' : World} {L : List En} {e : Ending} (h : AllE w L e w') : AllN w L L.length e w' := by
  obtain ⟨o, c', he, -, -, hs, hb⟩ := h
  exact ⟨Ao o, c', he, Reads.of_sl hs, hb⟩

set_option maxHeartbeats 40000000 in
set_option maxRecDepth 100000 in
theorem walk (A : Option Addr) (n c : Nat) (F : Nat → Act3) (nm : ByteArray) (w : World) (k1 : n ≤ c ∧ c ≤ maxLen) (hF : Acts w w.heap.size A n F) (ws : nm.size ≤ maxLen) :
    Calls Try.prog 3 #[.slice A n c, .string nm] w (AwakeE w) := by
  have hnm : n ≤ 9223372036854775807 := Nat.le_trans k1.1 k1.2
  have hns : nm.size ≤ 9223372036854775807 := ws
  have HF := Lib.hid hF
  have hgd := guard37
  clear k1 hF ws
  go_enter Try.func3, Try.ntmps3
  go_wp2_with fail
  refine (awake_any _).mono ?_
  rintro e w1 ⟨rfl, hb1⟩
  go_wp2_with fail
  refine (new_any w1 w.heap.size hb1.size).mono ?_
  rintro e w2 ⟨rfl, h2, hb2⟩
  have H0 := Lib.hid (duo_new hb1 h2 hb2 rfl)
  generalize w1.heap.size = D at *
  clear h2 hb1 hb2
  go_wp2_with fail
  generalize hw0 : w2.alloc (.cells #[.slice none 0 0] 29) = w3 at *
  generalize w2.heap.size = E at *
  clear hw0
  go_loopg [7] 100 (fun g s7 wr => ∃ (k : Nat) (L : List En), g + k = 100 ∧ k ≤ n ∧ s7 = .int .i64 k ∧ L.length ≤ k ∧ Hid (DuoX w wr D E No L L))
  case atStart => exact ⟨0, [], by omega, by omega, rfl, Nat.le_refl _, H0⟩
  case round =>
    clear H0
    obtain ⟨k, L, hgk, hk, rfl, hLl, HD⟩ := hrel
    have hk100 : k ≤ 100 := by omega
    by_cases hgo : k < n ∧ k < 100
    · obtain ⟨hkn, hk2⟩ := hgo
      obtain ⟨ab, ao, rfl, hab, f0, f1, f2, hz⟩ := (HF.out.below HD.out.bel) k hkn
      generalize F k = x at *
      obtain ⟨xk, xs, xi⟩ := x
      dsimp only at f0 f1 f2 hz
      have hxs : xs.size ≤ 9223372036854775807 := hz
      have HB := Lib.hid (HD.out.box (.cells #[.int .i64 xk, .string xs, .int .i64 xi] 31))
      have b1 : (wr.alloc (.cells #[.int .i64 xk, .string xs, .int .i64 xi] 31)).cell? ⟨wr.heap.size, 1, none⟩ = some (.string xs) := by simp
      have b2 : (wr.alloc (.cells #[.int .i64 xk, .string xs, .int .i64 xi] 31)).cell? ⟨wr.heap.size, 2, none⟩ = some (.int .i64 xi) := by simp
      have hbl : wr.heap.size < (wr.alloc (.cells #[.int .i64 xk, .string xs, .int .i64 xi] 31)).heap.size := by simp
      have B1 := Lib.hid b1
      have B2 := Lib.hid b2
      have BL := Lib.hid hbl
      clear hz b1 b2 hbl HD
      by_cases h0 : xk = 0
      · subst h0
        have HS1 := Lib.hid (fun W (h : DuoX w W D E (fun b => b = wr.heap.size) L L) => duo_set h (by omega) xs xi hxs)
        have HS2 := Lib.hid (fun W (h : DuoX w W D E (fun b => b = wr.heap.size) (lsetE xs xi L) L) => duo_rset h (by omega) xs xi hxs)
        have hNl : (lsetE xs xi L).length ≤ k + 1 := by have := lsetE_length xs xi L; omega
        generalize serr xs xi = r1 at *
        generalize lsetE xs xi L = N at *
        go_upto_region 11 with fail
        generalize hwb : wr.alloc (.cells #[.int .i64 0, .string xs, .int .i64 xi] 31) = wt at *
        generalize wr.heap.size = l at *
        have b1 := B1.out
        have b2 := B2.out
        clear hwb f0 f1 f2 hLl
        go_region_held3 (fun w' => w'.cell? ⟨l, 1, none⟩ = some (.string xs) ∧ w'.cell? ⟨l, 2, none⟩ = some (.int .i64 xi))
          (first | exact ⟨b1, b2⟩ | exact ⟨c1, c2⟩ | exact ⟨d1, d2⟩ | assumption | go_keep)
          (first
          | (go_at_call 10; ((with_reducible refine (HS1.out _ (HB.out.below (Below.drew (Below.refl _ _)))).mono ?_); rintro e wb ⟨rfl, hd4, hs4⟩; have c1 := (World.cell?_of_block (a := ⟨l, 1, none⟩) (hs4 l rfl)).trans b1; have c2 := (World.cell?_of_block (a := ⟨l, 2, none⟩) (hs4 l rfl)).trans b2; have HD4 := Lib.hid hd4))
          | (go_at_call 11; ((with_reducible refine (HS2.out _ HD4.out).mono ?_); rintro e wc ⟨rfl, hd5, hs5⟩; have d1 := (World.cell?_of_block (a := ⟨l, 1, none⟩) (hs5 l rfl)).trans c1; have d2 := (World.cell?_of_block (a := ⟨l, 2, none⟩) (hs5 l rfl)).trans c2; have HT := Lib.hid hd5)))
        all_goals
          have t1 := d1
          have tl := World.block_lt_of_cell? _ _ d1
          clear b1 b2 c1 c2 d1 d2 hd4 hs4 hd5 hs5 HD4 HS1 HS2 HB B1 B2 BL
          go_upto_region 18 with fail
          have K1 := Lib.hid (x_get HT.out.left (by omega) xs)
          obtain ⟨v1, v2, hv⟩ := getV_form xs N
          rw [hv] at K1
          have HV := Lib.hid hv
          clear hv
          go_wp2_with fail
          refine K1.out.mono ?_
          rintro e w5 ⟨rfl, hb5⟩
          have HT5 := Lib.hid (HT.out.below hb5)
          have t5 := (hb5.cell (p := ⟨l, 1, none⟩) tl).trans t1
          have K2 := Lib.hid (duo_rget HT5.out (by omega) xs)
          rw [HV.out] at K2
          clear hb5 K1 t1 tl HT
          go_wp2_with fail
          refine K2.out.mono ?_
          rintro e w6 ⟨rfl, hw6⟩
          subst hw6
          obtain ⟨ys, yv, q, hy⟩ := nextV_form nm N
          have K3 := Lib.hid (x_next HT5.out.left (by omega) nm)
          rw [hy] at K3
          have HY := Lib.hid hy
          clear hy K2 t5
          go_wp2_with fail
          refine K3.out.mono ?_
          rintro e w7 ⟨rfl, hb7⟩
          have HT7 := Lib.hid (HT5.out.below hb7)
          have HT8 := Lib.hid (HT7.out.below (below_alloc w7 (.cells #[.string ys, .int .i64 yv] 37)))
          have K4 := Lib.hid (duo_rnext HT8.out (by omega) nm hns)
          rw [HY.out] at K4
          have p0 : (w7.alloc (.cells #[.string ys, .int .i64 yv] 37)).cell? ⟨w7.heap.size, 0, none⟩ = some (.string ys) := by simp
          have p1 : (w7.alloc (.cells #[.string ys, .int .i64 yv] 37)).cell? ⟨w7.heap.size, 1, none⟩ = some (.int .i64 yv) := by simp
          have pl : w7.heap.size < (w7.alloc (.cells #[.string ys, .int .i64 yv] 37)).heap.size := by simp
          have P0 := Lib.hid p0
          have P1 := Lib.hid p1
          have PL := Lib.hid pl
          clear hb7 K3 HT5 p0 p1 pl
          go_wp2_with fail
          refine K4.out.mono ?_
          rintro e w9 ⟨rfl, hb9⟩
          have HTA := Lib.hid ((HT8.out.below hb9).below (below_alloc w9 (.cells #[.string ys, .int .i64 yv] 37)))
          have hl79 : w7.heap.size < w9.heap.size := Nat.lt_of_lt_of_le PL.out hb9.size
          have a0 := ((below_alloc w9 (.cells #[.string ys, .int .i64 yv] 37)).cell (p := ⟨w7.heap.size, 0, none⟩) hl79).trans ((hb9.cell (p := ⟨w7.heap.size, 0, none⟩) PL.out).trans P0.out)
          have a1 := ((below_alloc w9 (.cells #[.string ys, .int .i64 yv] 37)).cell (p := ⟨w7.heap.size, 1, none⟩) hl79).trans ((hb9.cell (p := ⟨w7.heap.size, 1, none⟩) PL.out).trans P1.out)
          have a2 : (w9.alloc (.cells #[.string ys, .int .i64 yv] 37)).cell? ⟨w9.heap.size, 0, none⟩ = some (.string ys) := by simp
          have a3 : (w9.alloc (.cells #[.string ys, .int .i64 yv] 37)).cell? ⟨w9.heap.size, 1, none⟩ = some (.int .i64 yv) := by simp
          have al : w9.heap.size < (w9.alloc (.cells #[.string ys, .int .i64 yv] 37)).heap.size := by simp
          clear hb9 K4 HT8 P0 P1 PL
          go_upto_region 22 with fail
          generalize hwa : w9.alloc (.cells #[.string ys, .int .i64 yv] 37) = wa at *
          generalize w7.heap.size = l7 at *
          generalize w9.heap.size = l9 at *
          have hl7 : l7 < wa.heap.size := by omega
          have hne : ∀ W, (binOp .neq 37 (.agg #[.string ys, .int .i64 yv]) (.agg #[.string ys, .int .i64 yv])).run Try.prog W = .ok (.bool false) W := fun W => by
            have := run_neq37 (ys, yv) (ys, yv) W
            rwa [decide_eq_true rfl] at this
          obtain ⟨RA, rc, r0, rl, hrd⟩ := HTA.out.right
          have hNN : N.length ≤ 101 := by omega
          have KL := Lib.hid (fun W (hb : Below wa.heap.size wa W) => x_len (HTA.out.below hb).left)
          have KA := Lib.hid (fun W (hb : Below wa.heap.size wa W) => (x_all (HTA.out.below hb).left (by omega)).mono fun _ _ h => AllN.of h)
          have HRD := Lib.hid (fun W (hb : Below wa.heap.size wa W) => hrd.step hb)
          have hn2 : N.length = N.length := rfl
          have KS := Lib.hid (fun W (hb : Below wa.heap.size wa W) B d (hB : Reads W W.heap.size B N) => (by
            have := same_any B RA N.length N.length d rc N N W rfl rfl (by omega) (by omega) hB (hrd.step hb)
            rwa [decide_eq_true rfl] at this : Calls Try.prog 19 #[.slice B N.length d, .slice RA N.length rc] W (RetB W true)))
          generalize hnn : N.length = nn at *
          have HNN := Lib.hid hnn
          clear hn2 hwa hrd hnn
          go_region_held3 (fun w' => w'.cell? ⟨l7, 0, none⟩ = some (.string ys) ∧ w'.cell? ⟨l7, 1, none⟩ = some (.int .i64 yv) ∧ w'.cell? ⟨l9, 0, none⟩ = some (.string ys) ∧ w'.cell? ⟨l9, 1, none⟩ = some (.int .i64 yv) ∧ w'.cell? ⟨E, 0, none⟩ = some (.slice RA nn rc))
            (first | exact ⟨a0, a1, a2, a3, r0⟩ | exact ⟨c0, c1, c2, c3, c4⟩ | exact ⟨d0, d1, d2, d3, d4⟩ | assumption | go_keep)
            (first
            | (go_at_call 18; ((with_reducible refine (KL.out _ (Below.refl _ _).drew).mono ?_); rintro e wb ⟨rfl, rfl⟩))
            | (go_at_call 20; ((with_reducible refine (KA.out _ (Below.refl _ _).drew).mono ?_); rintro e wb ⟨oo, co, rfl, hrs, hbb⟩; have hbw := (Below.drew (Below.refl wa.heap.size wa)).trans (hbb.mono (Nat.le_refl _)); have c0 := (hbw.cell (p := ⟨l7, 0, none⟩) hl7).trans a0; have c1 := (hbw.cell (p := ⟨l7, 1, none⟩) hl7).trans a1; have c2 := (hbw.cell (p := ⟨l9, 0, none⟩) al).trans a2; have c3 := (hbw.cell (p := ⟨l9, 1, none⟩) al).trans a3; have c4 := (hbw.cell (p := ⟨E, 0, none⟩) rl).trans r0; have HRS := Lib.hid hrs))
            | (go_at_call 19; ((with_reducible refine (KS.out _ hbw _ _ HRS.out).mono ?_); rintro e wc ⟨rfl, hbc⟩; have hbx := hbw.trans (hbc.mono hbw.size); have d0 := (hbx.cell (p := ⟨l7, 0, none⟩) hl7).trans a0; have d1 := (hbx.cell (p := ⟨l7, 1, none⟩) hl7).trans a1; have d2 := (hbx.cell (p := ⟨l9, 0, none⟩) al).trans a2; have d3 := (hbx.cell (p := ⟨l9, 1, none⟩) al).trans a3; have d4 := (hbx.cell (p := ⟨E, 0, none⟩) rl).trans r0)))
          all_goals
            have HFIN := Lib.hid (HTA.out.below hbx).forget
            clear c0 c1 c2 c3 c4 d0 d1 d2 d3 d4 a0 a1 a2 a3 r0 hbx hbw hbb hbc hrs HRS KL KA KS HRD HTA hne
            go_wp2_with fail
            go_roundg (gk - 1)
            case measure => omega
            case rel => exact ⟨k + 1, N, by omega, by omega, by go_num, by rw [HNN.out]; exact hNl, HFIN⟩
      · by_cases h1 : xk = 1
        · subst h1
          have HS1 := Lib.hid (duo_del HB.out (by omega) xs)
          have HS2 := Lib.hid (fun W (h : DuoX w W D E (fun b => b = wr.heap.size) (ldel xs L) L) => duo_rdel h (by omega) xs)
          obtain ⟨v3, v4, hv3⟩ := getV_form xs L
          rw [hv3] at HS1 HS2
          have hNl : (ldel xs L).length ≤ k + 1 := by have := ldel_length xs L; omega
          generalize ldel xs L = N at *
          clear hv3 h0 hLl
          go_wp2_with fail
          refine HS1.out.mono ?_
          rintro e w4 ⟨rfl, hd4, hs4⟩
          have t4 := (World.cell?_of_block (a := ⟨wr.heap.size, 1, none⟩) (hs4 wr.heap.size rfl)).trans B1.out
          have HS3 := Lib.hid (HS2.out w4 hd4)
          generalize wr.heap.size = l at *
          clear hd4 hs4 HS1 HS2 B1 B2 BL HB f0 f1 f2
          go_wp2_with fail
          refine HS3.out.mono ?_
          rintro e wt ⟨rfl, hd5, hs5⟩
          have t1 := (World.cell?_of_block (a := ⟨l, 1, none⟩) (hs5 l rfl)).trans t4
          have HT := Lib.hid hd5
          have tl := World.block_lt_of_cell? _ _ t1
          clear hd5 hs5 HS3 t4
          go_upto_region 18 with fail
          have K1 := Lib.hid (x_get HT.out.left (by omega) xs)
          obtain ⟨v1, v2, hv⟩ := getV_form xs N
          rw [hv] at K1
          have HV := Lib.hid hv
          clear hv
          go_wp2_with fail
          refine K1.out.mono ?_
          rintro e w5 ⟨rfl, hb5⟩
          have HT5 := Lib.hid (HT.out.below hb5)
          have t5 := (hb5.cell (p := ⟨l, 1, none⟩) tl).trans t1
          have K2 := Lib.hid (duo_rget HT5.out (by omega) xs)
          rw [HV.out] at K2
          clear hb5 K1 t1 tl HT
          go_wp2_with fail
          refine K2.out.mono ?_
          rintro e w6 ⟨rfl, hw6⟩
          subst hw6
          obtain ⟨ys, yv, q, hy⟩ := nextV_form nm N
          have K3 := Lib.hid (x_next HT5.out.left (by omega) nm)
          rw [hy] at K3
          have HY := Lib.hid hy
          clear hy K2 t5
          go_wp2_with fail
          refine K3.out.mono ?_
          rintro e w7 ⟨rfl, hb7⟩
          have HT7 := Lib.hid (HT5.out.below hb7)
          have HT8 := Lib.hid (HT7.out.below (below_alloc w7 (.cells #[.string ys, .int .i64 yv] 37)))
          have K4 := Lib.hid (duo_rnext HT8.out (by omega) nm hns)
          rw [HY.out] at K4
          have p0 : (w7.alloc (.cells #[.string ys, .int .i64 yv] 37)).cell? ⟨w7.heap.size, 0, none⟩ = some (.string ys) := by simp
          have p1 : (w7.alloc (.cells #[.string ys, .int .i64 yv] 37)).cell? ⟨w7.heap.size, 1, none⟩ = some (.int .i64 yv) := by simp
          have pl : w7.heap.size < (w7.alloc (.cells #[.string ys, .int .i64 yv] 37)).heap.size := by simp
          have P0 := Lib.hid p0
          have P1 := Lib.hid p1
          have PL := Lib.hid pl
          clear hb7 K3 HT5 p0 p1 pl
          go_wp2_with fail
          refine K4.out.mono ?_
          rintro e w9 ⟨rfl, hb9⟩
          have HTA := Lib.hid ((HT8.out.below hb9).below (below_alloc w9 (.cells #[.string ys, .int .i64 yv] 37)))
          have hl79 : w7.heap.size < w9.heap.size := Nat.lt_of_lt_of_le PL.out hb9.size
          have a0 := ((below_alloc w9 (.cells #[.string ys, .int .i64 yv] 37)).cell (p := ⟨w7.heap.size, 0, none⟩) hl79).trans ((hb9.cell (p := ⟨w7.heap.size, 0, none⟩) PL.out).trans P0.out)
          have a1 := ((below_alloc w9 (.cells #[.string ys, .int .i64 yv] 37)).cell (p := ⟨w7.heap.size, 1, none⟩) hl79).trans ((hb9.cell (p := ⟨w7.heap.size, 1, none⟩) PL.out).trans P1.out)
          have a2 : (w9.alloc (.cells #[.string ys, .int .i64 yv] 37)).cell? ⟨w9.heap.size, 0, none⟩ = some (.string ys) := by simp
          have a3 : (w9.alloc (.cells #[.string ys, .int .i64 yv] 37)).cell? ⟨w9.heap.size, 1, none⟩ = some (.int .i64 yv) := by simp
          have al : w9.heap.size < (w9.alloc (.cells #[.string ys, .int .i64 yv] 37)).heap.size := by simp
          clear hb9 K4 HT8 P0 P1 PL
          go_upto_region 22 with fail
          generalize hwa : w9.alloc (.cells #[.string ys, .int .i64 yv] 37) = wa at *
          generalize w7.heap.size = l7 at *
          generalize w9.heap.size = l9 at *
          have hl7 : l7 < wa.heap.size := by omega
          have hne : ∀ W, (binOp .neq 37 (.agg #[.string ys, .int .i64 yv]) (.agg #[.string ys, .int .i64 yv])).run Try.prog W = .ok (.bool false) W := fun W => by
            have := run_neq37 (ys, yv) (ys, yv) W
            rwa [decide_eq_true rfl] at this
          obtain ⟨RA, rc, r0, rl, hrd⟩ := HTA.out.right
          have hNN : N.length ≤ 101 := by omega
          have KL := Lib.hid (fun W (hb : Below wa.heap.size wa W) => x_len (HTA.out.below hb).left)
          have KA := Lib.hid (fun W (hb : Below wa.heap.size wa W) => (x_all (HTA.out.below hb).left (by omega)).mono fun _ _ h => AllN.of h)
          have HRD := Lib.hid (fun W (hb : Below wa.heap.size wa W) => hrd.step hb)
          have hn2 : N.length = N.length := rfl
          have KS := Lib.hid (fun W (hb : Below wa.heap.size wa W) B d (hB : Reads W W.heap.size B N) => (by
            have := same_any B RA N.length N.length d rc N N W rfl rfl (by omega) (by omega) hB (hrd.step hb)
            rwa [decide_eq_true rfl] at this : Calls Try.prog 19 #[.slice B N.length d, .slice RA N.length rc] W (RetB W true)))
          generalize hnn : N.length = nn at *
          have HNN := Lib.hid hnn
          clear hn2 hwa hrd hnn
          go_region_held3 (fun w' => w'.cell? ⟨l7, 0, none⟩ = some (.string ys) ∧ w'.cell? ⟨l7, 1, none⟩ = some (.int .i64 yv) ∧ w'.cell? ⟨l9, 0, none⟩ = some (.string ys) ∧ w'.cell? ⟨l9, 1, none⟩ = some (.int .i64 yv) ∧ w'.cell? ⟨E, 0, none⟩ = some (.slice RA nn rc))
            (first | exact ⟨a0, a1, a2, a3, r0⟩ | exact ⟨c0, c1, c2, c3, c4⟩ | exact ⟨d0, d1, d2, d3, d4⟩ | assumption | go_keep)
            (first
            | (go_at_call 18; ((with_reducible refine (KL.out _ (Below.refl _ _).drew).mono ?_); rintro e wb ⟨rfl, rfl⟩))
            | (go_at_call 20; ((with_reducible refine (KA.out _ (Below.refl _ _).drew).mono ?_); rintro e wb ⟨oo, co, rfl, hrs, hbb⟩; have hbw := (Below.drew (Below.refl wa.heap.size wa)).trans (hbb.mono (Nat.le_refl _)); have c0 := (hbw.cell (p := ⟨l7, 0, none⟩) hl7).trans a0; have c1 := (hbw.cell (p := ⟨l7, 1, none⟩) hl7).trans a1; have c2 := (hbw.cell (p := ⟨l9, 0, none⟩) al).trans a2; have c3 := (hbw.cell (p := ⟨l9, 1, none⟩) al).trans a3; have c4 := (hbw.cell (p := ⟨E, 0, none⟩) rl).trans r0; have HRS := Lib.hid hrs))
            | (go_at_call 19; ((with_reducible refine (KS.out _ hbw _ _ HRS.out).mono ?_); rintro e wc ⟨rfl, hbc⟩; have hbx := hbw.trans (hbc.mono hbw.size); have d0 := (hbx.cell (p := ⟨l7, 0, none⟩) hl7).trans a0; have d1 := (hbx.cell (p := ⟨l7, 1, none⟩) hl7).trans a1; have d2 := (hbx.cell (p := ⟨l9, 0, none⟩) al).trans a2; have d3 := (hbx.cell (p := ⟨l9, 1, none⟩) al).trans a3; have d4 := (hbx.cell (p := ⟨E, 0, none⟩) rl).trans r0)))
          all_goals
            have HFIN := Lib.hid (HTA.out.below hbx).forget
            clear c0 c1 c2 c3 c4 d0 d1 d2 d3 d4 a0 a1 a2 a3 r0 hbx hbw hbb hbc hrs HRS KL KA KS HRD HTA hne
            go_wp2_with fail
            go_roundg (gk - 1)
            case measure => omega
            case rel => exact ⟨k + 1, N, by omega, by omega, by go_num, by rw [HNN.out]; exact hNl, HFIN⟩
        · have q0 : (xk == 0) = false := by simpa using h0
          have q1 : (xk == 1) = false := by simpa using h1
          have hNl : L.length ≤ k + 1 := by omega
          have HX0 := Lib.hid h0
          have HX1 := Lib.hid h1
          clear h0 h1 hLl
          go_upto_region 18 with fail
          generalize hwb : wr.alloc (.cells #[.int .i64 xk, .string xs, .int .i64 xi] 31) = wt at *
          generalize wr.heap.size = l at *
          have HT := Lib.hid HB.out
          have t1 := B1.out
          have tl := BL.out
          clear hwb HB B1 B2 BL f0 f1 f2
          generalize L = N at *
          have K1 := Lib.hid (x_get HT.out.left (by omega) xs)
          obtain ⟨v1, v2, hv⟩ := getV_form xs N
          rw [hv] at K1
          have HV := Lib.hid hv
          clear hv
          go_wp2_with fail
          refine K1.out.mono ?_
          rintro e w5 ⟨rfl, hb5⟩
          have HT5 := Lib.hid (HT.out.below hb5)
          have t5 := (hb5.cell (p := ⟨l, 1, none⟩) tl).trans t1
          have K2 := Lib.hid (duo_rget HT5.out (by omega) xs)
          rw [HV.out] at K2
          clear hb5 K1 t1 tl HT
          go_wp2_with fail
          refine K2.out.mono ?_
          rintro e w6 ⟨rfl, hw6⟩
          subst hw6
          obtain ⟨ys, yv, q, hy⟩ := nextV_form nm N
          have K3 := Lib.hid (x_next HT5.out.left (by omega) nm)
          rw [hy] at K3
          have HY := Lib.hid hy
          clear hy K2 t5
          go_wp2_with fail
          refine K3.out.mono ?_
          rintro e w7 ⟨rfl, hb7⟩
          have HT7 := Lib.hid (HT5.out.below hb7)
          have HT8 := Lib.hid (HT7.out.below (below_alloc w7 (.cells #[.string ys, .int .i64 yv] 37)))
          have K4 := Lib.hid (duo_rnext HT8.out (by omega) nm hns)
          rw [HY.out] at K4
          have p0 : (w7.alloc (.cells #[.string ys, .int .i64 yv] 37)).cell? ⟨w7.heap.size, 0, none⟩ = some (.string ys) := by simp
          have p1 : (w7.alloc (.cells #[.string ys, .int .i64 yv] 37)).cell? ⟨w7.heap.size, 1, none⟩ = some (.int .i64 yv) := by simp
          have pl : w7.heap.size < (w7.alloc (.cells #[.string ys, .int .i64 yv] 37)).heap.size := by simp
          have P0 := Lib.hid p0
          have P1 := Lib.hid p1
          have PL := Lib.hid pl
          clear hb7 K3 HT5 p0 p1 pl
          go_wp2_with fail
          refine K4.out.mono ?_
          rintro e w9 ⟨rfl, hb9⟩
          have HTA := Lib.hid ((HT8.out.below hb9).below (below_alloc w9 (.cells #[.string ys, .int .i64 yv] 37)))
          have hl79 : w7.heap.size < w9.heap.size := Nat.lt_of_lt_of_le PL.out hb9.size
          have a0 := ((below_alloc w9 (.cells #[.string ys, .int .i64 yv] 37)).cell (p := ⟨w7.heap.size, 0, none⟩) hl79).trans ((hb9.cell (p := ⟨w7.heap.size, 0, none⟩) PL.out).trans P0.out)
          have a1 := ((below_alloc w9 (.cells #[.string ys, .int .i64 yv] 37)).cell (p := ⟨w7.heap.size, 1, none⟩) hl79).trans ((hb9.cell (p := ⟨w7.heap.size, 1, none⟩) PL.out).trans P1.out)
          have a2 : (w9.alloc (.cells #[.string ys, .int .i64 yv] 37)).cell? ⟨w9.heap.size, 0, none⟩ = some (.string ys) := by simp
          have a3 : (w9.alloc (.cells #[.string ys, .int .i64 yv] 37)).cell? ⟨w9.heap.size, 1, none⟩ = some (.int .i64 yv) := by simp
          have al : w9.heap.size < (w9.alloc (.cells #[.string ys, .int .i64 yv] 37)).heap.size := by simp
          clear hb9 K4 HT8 P0 P1 PL
          go_upto_region 22 with fail
          generalize hwa : w9.alloc (.cells #[.string ys, .int .i64 yv] 37) = wa at *
          generalize w7.heap.size = l7 at *
          generalize w9.heap.size = l9 at *
          have hl7 : l7 < wa.heap.size := by omega
          have hne : ∀ W, (binOp .neq 37 (.agg #[.string ys, .int .i64 yv]) (.agg #[.string ys, .int .i64 yv])).run Try.prog W = .ok (.bool false) W := fun W => by
            have := run_neq37 (ys, yv) (ys, yv) W
            rwa [decide_eq_true rfl] at this
          obtain ⟨RA, rc, r0, rl, hrd⟩ := HTA.out.right
          have hNN : N.length ≤ 101 := by omega
          have KL := Lib.hid (fun W (hb : Below wa.heap.size wa W) => x_len (HTA.out.below hb).left)
          have KA := Lib.hid (fun W (hb : Below wa.heap.size wa W) => (x_all (HTA.out.below hb).left (by omega)).mono fun _ _ h => AllN.of h)
          have HRD := Lib.hid (fun W (hb : Below wa.heap.size wa W) => hrd.step hb)
          have hn2 : N.length = N.length := rfl
          have KS := Lib.hid (fun W (hb : Below wa.heap.size wa W) B d (hB : Reads W W.heap.size B N) => (by
            have := same_any B RA N.length N.length d rc N N W rfl rfl (by omega) (by omega) hB (hrd.step hb)
            rwa [decide_eq_true rfl] at this : Calls Try.prog 19 #[.slice B N.length d, .slice RA N.length rc] W (RetB W true)))
          generalize hnn : N.length = nn at *
          have HNN := Lib.hid hnn
          clear hn2 hwa hrd hnn
          go_region_held3 (fun w' => w'.cell? ⟨l7, 0, none⟩ = some (.string ys) ∧ w'.cell? ⟨l7, 1, none⟩ = some (.int .i64 yv) ∧ w'.cell? ⟨l9, 0, none⟩ = some (.string ys) ∧ w'.cell? ⟨l9, 1, none⟩ = some (.int .i64 yv) ∧ w'.cell? ⟨E, 0, none⟩ = some (.slice RA nn rc))
            (first | exact ⟨a0, a1, a2, a3, r0⟩ | exact ⟨c0, c1, c2, c3, c4⟩ | exact ⟨d0, d1, d2, d3, d4⟩ | assumption | go_keep)
            (first
            | (go_at_call 18; ((with_reducible refine (KL.out _ (Below.refl _ _).drew).mono ?_); rintro e wb ⟨rfl, rfl⟩))
            | (go_at_call 20; ((with_reducible refine (KA.out _ (Below.refl _ _).drew).mono ?_); rintro e wb ⟨oo, co, rfl, hrs, hbb⟩; have hbw := (Below.drew (Below.refl wa.heap.size wa)).trans (hbb.mono (Nat.le_refl _)); have c0 := (hbw.cell (p := ⟨l7, 0, none⟩) hl7).trans a0; have c1 := (hbw.cell (p := ⟨l7, 1, none⟩) hl7).trans a1; have c2 := (hbw.cell (p := ⟨l9, 0, none⟩) al).trans a2; have c3 := (hbw.cell (p := ⟨l9, 1, none⟩) al).trans a3; have c4 := (hbw.cell (p := ⟨E, 0, none⟩) rl).trans r0; have HRS := Lib.hid hrs))
            | (go_at_call 19; ((with_reducible refine (KS.out _ hbw _ _ HRS.out).mono ?_); rintro e wc ⟨rfl, hbc⟩; have hbx := hbw.trans (hbc.mono hbw.size); have d0 := (hbx.cell (p := ⟨l7, 0, none⟩) hl7).trans a0; have d1 := (hbx.cell (p := ⟨l7, 1, none⟩) hl7).trans a1; have d2 := (hbx.cell (p := ⟨l9, 0, none⟩) al).trans a2; have d3 := (hbx.cell (p := ⟨l9, 1, none⟩) al).trans a3; have d4 := (hbx.cell (p := ⟨E, 0, none⟩) rl).trans r0)))
          all_goals
            have HFIN := Lib.hid (HTA.out.below hbx).forget
            clear c0 c1 c2 c3 c4 d0 d1 d2 d3 d4 a0 a1 a2 a3 r0 hbx hbw hbb hbc hrs HRS KL KA KS HRD HTA hne
            go_wp2_with fail
            go_roundg (gk - 1)
            case measure => omega
            case rel => exact ⟨k + 1, N, by omega, by omega, by go_num, by rw [HNN.out]; exact hNl, HFIN⟩
    · have hsplit : (k < n ∧ k = 100) ∨ ¬ k < n := by omega
      have KA := Lib.hid (x_all HD.out.left (by omega))
      clear hgo
      rcases hsplit with ⟨hkn, rfl⟩ | hkn
      all_goals
        go_wp2_with fail
        refine KA.out.mono ?_
        rintro e w5 ⟨o5, c5, rfl, -, -, hsl5, hb5⟩
        have HRW := Lib.hid (Raw.of_sl hsl5)
        have HB5 := Lib.hid hb5
        have hLn : L.length ≤ 100 := by omega
        have HALL := Lib.hid (fun W (hb : Below wr.heap.size wr W) => (x_all (HD.out.below hb).left (by omega)).mono fun _ _ h => AllN.of h)
        have HSAME := Lib.hid (fun W B d RA rc (h1 : Reads W W.heap.size B L) (h2 : Reads W W.heap.size RA L) => (by
          have := same_any B RA L.length L.length d rc L L W rfl rfl (by omega) (by omega) h1 h2
          rwa [decide_eq_true rfl] at this : Calls Try.prog 19 #[.slice B L.length d, .slice RA L.length rc] W (RetB W true)))
        have HBEL := Lib.hid HD.out.bel
        have HRIGHT := Lib.hid (fun W (hb : Below wr.heap.size wr W) => (HD.out.below hb).right)
        generalize Ao o5 = A5 at *
        generalize hnn : L.length = nn at *
        clear hsl5 hb5 KA hnn
        go_wp2_with fail
        go_loopg [151] nn (fun g s wy => ∃ j : Nat, g + j = nn ∧ s = .int .i64 j ∧ Hid (Raw wy wr.heap.size A5 nn) ∧ Hid (Below wr.heap.size wr wy))
        case atStart => exact ⟨0, by omega, rfl, HRW, HB5⟩
        case round =>
          clear HRW HB5
          obtain ⟨j, hgj, rfl, HRW, HBY⟩ := hrel
          by_cases hjn : j < nn
          · obtain ⟨G, cp, f, rfl, hlo, hrow, hcp⟩ := HRW.out (by omega)
            have g0 := hrow.cell (i := j * 2) (by omega)
            have g1 := hrow.frozen (j * 2)
            have HRW2 := Lib.hid (fun v => Raw.set (v := v) (o := j * 2) HRW.out)
            have HBY2 := Lib.hid (fun v => (HBY.out.setCell (show _ ≤ (⟨G, j * 2, none⟩ : Addr).block from hlo) v))
            generalize f (j * 2) = u at *
            clear hrow
            go_wp2_with fail
            go_roundg (gk - 1)
            case measure => omega
            case rel => exact ⟨j + 1, by omega, by go_num, Lib.hid (HRW2.out _), Lib.hid (HBY2.out _)⟩
          · obtain ⟨RA, rc, r0, rl, hrd⟩ := HRIGHT.out wr HBY.out
            have KA := Lib.hid (HALL.out _ (Below.drew HBY.out))
            have hjn2 : ¬ ((j : Int) < (nn : Int)) := by omega
            have HSM := Lib.hid (fun W B d h1 (hb : Below wr.heap.size wr W) => HSAME.out W B d RA rc h1 (hrd.step hb))
            have HFB := Lib.hid HBY.out
            clear hjn HRW HALL HRIGHT HSAME hrd
            go_upto_region 30 with fail
            go_region_held3 (fun w' => w'.cell? ⟨E, 0, none⟩ = some (.slice RA nn rc))
              (first | exact r0 | exact c0 | exact d0 | assumption | go_keep)
              (first
              | (go_at_call 20; ((with_reducible refine KA.out.mono ?_); rintro e wb ⟨oo, co, rfl, hrs, hbb⟩; have hbw := below_of_drew hbb; have c0 := (hbw.cell (p := ⟨E, 0, none⟩) rl).trans r0; have HRS := Lib.hid hrs))
              | (go_at_call 19; ((with_reducible refine (HSM.out _ _ _ HRS.out hbw).mono ?_); rintro e wc ⟨rfl, hbc⟩; have d0 := (hbc.cell (p := ⟨E, 0, none⟩) (Nat.lt_of_lt_of_le rl hbw.size)).trans c0; have hbx := hbw.trans (hbc.mono hbw.size))))
            all_goals
              go_wp2_with fail
              go_ret
              exact ⟨rfl, below_step HBEL.out (HFB.out.trans (hbx.mono HFB.out.size))⟩

set_option maxRecDepth 100000 in
theorem lifted (os : Os) (started : os.Started) (H : Type) (enc : TypeId × Value → H) :
    ReturnsInHanded {} Try.checked os 3 .any (Rows.dentsDoesSpec.pre6 enc Try.prog Try.f3 Rows.dentsDoesRow.domain false) (Rows.dentsDoesSpec.post enc Try.prog Try.f3 false true false false) := by
  refine returnsInHanded_of_change (C := Try.checked) own started (by kernel_rfl) Try.func3
    (ChangeSpec.witness6 (enc := enc) (C := Try.checked) false ⟨#[], #[.slice none 0 0, .string ByteArray.empty], []⟩ 8 (by kernel_rfl) (by kernel_rfl) (by kernel_rfl) (by kernel_rfl)) ?_
  intro W base args ds gs before hval0 hW hcnd _
  have hval : ∀ (j : Nat) t v, Try.f3.params[j]? = some t → args[j]? = some v → Value.okWide Try.prog W .any base t v := hval0
  have hW' := hW
  obtain ⟨p, q, hA0, hV, rfl, hfz, hnd⟩ := hW
  have hA : DataW.TrodAll enc Try.prog W 0 (fun _ => true) true Try.f3.params.toList args.toList ds p := hA0
  rw [Try.params3] at hA hval
  obtain ⟨v0, vs0, d0, ds0, p0, q0, hargs, rfl, rfl, h0, r0⟩ := trodAll_cons hA
  obtain ⟨v1, vs1, d1, ds1, p1, q1, rfl, rfl, rfl, h1, r1⟩ := trodAll_cons r0
  obtain ⟨rfl, rfl, rfl⟩ := trodAll_nil r1
  obtain rfl : args = #[v0, v1] := by cases args; simp_all
  obtain ⟨rfl, rfl⟩ := trodVars_none hV
  have hlt := fun x hx => hW'.lt x hx
  have t0 := h0
  obtain ⟨A0, n0, c0, x0, rfl, e0, s0⟩ := open_acts (hval 0 22 v0 rfl rfl) h0
  obtain ⟨a1, rfl, rfl, rfl, w1⟩ := open_string Try.underlying9 (hval 1 9 v1 rfl rfl) h1
  clear hA0 hval0
  refine (walk A0 n0 c0 x0 a1 W e0 s0 w1).mono fun e W' ⟨he, hg⟩ => ?_
  subst he
  exact ⟨_, rfl, law_post (pv := []) hW' (fun _ _ _ => (trodAll_cons_mk (shut_bool Try.underlying4 _) trodAll_mk0)) (fun sp hsp => (trodAll_cons_mk (arg_stays (by decide) t0 hg (by simp +contextual) hlt hsp laid) (trodAll_cons_mk (shut_string Try.underlying9 w1) trodAll_mk0))) (fun _ _ => rfl) (by simp)
    hg (ok_one (by kernel_rfl) rfl (okWide_bool_mk Try.underlying4 _))⟩

theorem over : Rows.dentsDoesRow.holds Try.pinned (OpenSpec.ofChange Rows.dentsDoesSpec) :=
  OpenClaim.holds_of_wide 3 Try.f3 rfl rfl rfl rfl rfl rfl rfl ⟨rfl, rfl, rfl, rfl, rfl⟩ rfl rfl rfl rfl rfl (by kernel_rfl) Try.func3 (by kernel_rfl)
    (of_decide_eq_true (by kernel_rfl)) (by unfold Func.isWrapper; first | (rw [if_pos (by decide +kernel)]; kernel_rfl) | (rw [if_neg (by decide +kernel)]; exact ⟨rfl, rfl⟩))
    (fun os started H enc _ => lifted os started H enc)

/-- The statement. -/
theorem proved : Rows.DentsDoesSaid :=
  over
end Go.Proofs.Ytchjidijgdkhoaa.dentsDoes
