/- Cut and Free. -/
import Derived.Test.YtpnnonphagddgaaRead
namespace Go.Proofs.Ytpnnonphagddgaa
open Go.RowKit
set_option linter.unusedVariables false
set_option linter.unusedSimpArgs false

def cutB (b : AB) (n : Nat) : AB := ⟨n, fun k => b.th k && decide (16 * k < n), fun i => if i < n then b.dat i else 0⟩
def cut (b : AB) (off : Int) : AB := if 0 ≤ off ∧ off ≤ 65536 then cutB b off.toNat else b
def cutR (off : Int) : Int := if off < 0 then 22 else if 65536 < off then 27 else 0
theorem cnt_le {N : Nat} {f g : Nat → Bool} (h : ∀ k, f k = true → g k = true) : cnt N f ≤ cnt N g := by
  unfold cnt
  rw [← List.countP_eq_length_filter, ← List.countP_eq_length_filter]
  exact List.countP_mono_left fun x _ hx => h x hx
theorem StoC.drew {w : World} {S room used : Nat} (h : StoC w S room used) : StoC w.drew S room used := ⟨h.c0, h.c1, h.f1⟩
theorem BodC.drew {w : World} {S B M n : Nat} (h : BodC w S B M n) : BodC w.drew S B M n := ⟨h.c0, h.c1, h.c2, h.f1⟩
def fp (S B M : Nat) (x : Nat) : Prop := x = S ∨ x = B ∨ x = M
/-- Behind a call that may have turned a body and its store. -/
structure BodE (w : World) (S B M room used : Nat) (b b' : AB) (w' : World) : Prop where
  s : StoC w' S room (used + b'.n - b.n)
  b : Bod w' S B M b'
  o : Only (fp S B M) w w'
def CutE (w : World) (S B M room used : Nat) (b : AB) (off : Int) (e : Ending) (w' : World) : Prop :=
  e = .returned (.int .i64 (cutR off)) ∧ BodE w S B M room used b (cut b off) w'

def delT (b : AB) (c k : Nat) : Nat → Bool := fun x => b.th x && !(decide (c ≤ x ∧ x < k))
def delD (b : AB) (c k : Nat) : Nat → UInt8 := fun i => if c ≤ i / 16 ∧ i / 16 < k then 0 else b.dat i

theorem cnt_congr {N : Nat} {f g : Nat → Bool} (h : ∀ k, f k = g k) : cnt N f = cnt N g := by
  obtain rfl : f = g := funext h
  rfl
theorem delT_cut {b : AB} {n c k : Nat} (ok : b.Ok) (hc : c = (n + 15) / 16) (hck : c ≤ k) (hk : (b.size + 15) / 16 ≤ k) (x : Nat) : delT b c k x = (cutB b n).th x := by
  show (b.th x && !(decide (c ≤ x ∧ x < k))) = (b.th x && decide (16 * x < n))
  cases hx : b.th x
  · rfl
  · have h1 := ok.th x hx
    by_cases h : 16 * x < n
    · have h2 : ¬ (c ≤ x ∧ x < k) := by omega
      simp [h, h2]
    · have h2 : (c ≤ x ∧ x < k) := by omega
      simp [h, h2]
theorem wipe_any (S B M n N a : Nat) (th : Nat → Bool) (dat : Nat → UInt8) (w : World) (hb : BodC w S B M n) (hM : MapAt w M th dat N) (ha : a ≤ 65536) :
    Calls Try.prog 38 #[Pq B, .int .i64 (a : Int)] w (fun e w' => e = .returned (.tuple #[]) ∧ MapAt w' M th (wiped dat a (a / 16)) N ∧ Only (· = M) w w') := by
  cases ht : th (a / 16)
  · refine (wipe_hole S B M n N a (a / 16) th dat w hb hM (by omega) ha ht).mono fun e w' ⟨he, hbl⟩ => ⟨he, ?_, Only.of_below hbl⟩
    refine (hM.of_block (hbl.block M hM.lt)).ext (fun _ => rfl) fun i => ?_
    unfold wiped
    split
    · next h =>
      have := hM.holes (a / 16) ht (i % 16) (by omega)
      rw [show 16 * (a / 16) + i % 16 = i from by omega] at this
      exact this.symm
    · rfl
  · exact wipe_there S B M n N a (a / 16) (a % 16) th dat w hb hM (by omega) (by omega) ha ht
set_option maxHeartbeats 1000000 in
set_option maxRecDepth 100000 in
theorem cut_any (S B M room used : Nat) (b : AB) (off : Int) (w : World) (hb : Bod w S B M b) (hs : StoC w S room used) (hu : b.n ≤ used) (hr : used ≤ 65536) (hSB : S ≠ B) (hSM : S ≠ M) (hBM : B ≠ M) :
    Calls Try.prog 19 #[Pq S, Pq B, .int .i64 off] w (CutE w S B M room used b off) := by
  have ho := owns_any S B M b.size w hb.c
  have hSl := World.block_lt_of_cell? w _ hs.c0
  have hB := hb.ltB
  have hM := hb.ltM
  have hsz := hb.ok.size
  have HSAME := Lib.hid (show ∀ e v, cut b off = b → cutR off = v → e = .returned (.int .i64 v) → CutE w S B M room used b off e w from fun e v h1 h2 he =>
    ⟨by rw [h2]; exact he, by rw [h1, Nat.add_sub_cancel]; exact hs, by rw [h1]; exact hb, Only.refl _ _⟩)
  by_cases h0 : off < 0
  · have HP := Lib.hid (HSAME.out _ 22 (by unfold cut; rw [if_neg (by omega)]) (by unfold cutR; rw [if_pos h0]) rfl)
    clear hsz hB hM hSB hSM hBM
    go_enter Try.func19, Try.ntmps19
    go_wp2
    go_ret
    exact HP.out
  by_cases h1 : 65536 < off
  · have HP := Lib.hid (HSAME.out _ 27 (by unfold cut; rw [if_neg (by omega)]) (by unfold cutR; rw [if_neg (by omega), if_pos h1]) rfl)
    clear hsz hB hM hSB hSM hBM
    go_enter Try.func19, Try.ntmps19
    go_wp2_with (go_at_call 31; ((with_reducible refine ho.mono ?_); rintro e w' ⟨rfl, rfl⟩))
    go_ret
    exact HP.out
  obtain ⟨n, rfl⟩ : ∃ n : Nat, off = (n : Int) := ⟨off.toNat, by omega⟩
  have hn : n ≤ 65536 := by omega
  have hcut : cut b (n : Int) = cutB b n := by unfold cut; rw [if_pos (by omega), Int.toNat_natCast]
  have hcutR : cutR (n : Int) = 0 := by unfold cutR; rw [if_neg (by omega), if_neg (by omega)]
  have c1 := hb.c.c1
  have c2 := hb.c.c2
  have hlen := hb.m.len 3
  have hck := chunksTo_any n w (by omega)
  have HCUT := Lib.hid hcut
  have HCR := Lib.hid hcutR
  have HB := Lib.hid hb
  have HS := Lib.hid hs
  have HNE := Lib.hid (show S ≠ B ∧ S ≠ M ∧ B ≠ M from ⟨hSB, hSM, hBM⟩)
  clear hcut hcutR hb hs HSAME hSB hSM hBM
  obtain ⟨c, hc⟩ : ∃ c, c = (n + 15) / 16 := ⟨_, rfl⟩
  obtain ⟨d, hd⟩ : ∃ d, d = (b.size + 15) / 16 := ⟨_, rfl⟩
  rw [← hc] at hck
  have HC := Lib.hid hc
  have HD := Lib.hid hd
  have hcl : c ≤ 4096 := by omega
  have hdl : d ≤ 4096 := by omega
  clear hc hd
  go_enter Try.func19, Try.ntmps19
  go_wp2_with (first | (go_at_call 31; ((with_reducible refine ho.mono ?_); rintro e w' ⟨rfl, rfl⟩)) | (go_at_call 37; ((with_reducible refine hck.mono ?_); rintro e w' ⟨rfl, rfl⟩)))
  clear ho hck hlen
  go_loopg [9] (4096 - c) (fun g s9 wr => ∃ (k N : Nat), g + k = 4096 ∧ c ≤ k ∧ s9 = .int .i64 (k : Int) ∧ (k ≤ d ∨ k = c) ∧ Hid (MapAt wr M (delT b c k) (delD b c k) N) ∧ Hid (Only (· = M) w wr))
  case atStart => exact ⟨c, b.n, by omega, by omega, rfl, by omega, Lib.hid (HB.out.m.ext (fun x => by unfold delT; simp; omega) (fun i => by unfold delD; rw [if_neg (by omega)])), Lib.hid (Only.refl _ _)⟩
  case round =>
    obtain ⟨k, N, hg, hck, rfl, hkd, HM, HO⟩ := hrel
    have hbB := HO.out.block B hB HNE.out.2.2
    have hc2 := (World.cell?_of_block (a := ⟨B, 2, none⟩) hbB).trans c2
    have hc1 := (World.cell?_of_block (a := ⟨B, 1, none⟩) hbB).trans c1
    have HCK := Lib.hid (show Calls Try.prog 37 #[.int .i64 (b.size : Int)] wr (fun e w' => e = .returned (.int .i64 (d : Int)) ∧ wr = w') by rw [HD.out]; exact chunksTo_any b.size wr (by omega))
    by_cases hlt : k < d
    · obtain ⟨w3, hdel, hM3, hO3⟩ := HM.out.del (dat' := delD b c (k + 1)) k (fun i hi => by
        unfold delD
        by_cases h : c ≤ i / 16 ∧ i / 16 < k
        · rw [if_pos (by omega), if_pos h]
        · rw [if_neg (by omega), if_neg h]) (fun j hj => by unfold delD; rw [if_pos (by omega)]) 0
      have HM3 := Lib.hid (hM3.ext (th' := delT b c (k + 1)) (fun x => by
        unfold updB delT
        by_cases e : x = k
        · subst e
          have : decide (c ≤ x ∧ x < x + 1) = true := by simp; omega
          rw [this, if_pos rfl]; simp
        · have : decide (c ≤ x ∧ x < k + 1) = decide (c ≤ x ∧ x < k) := decide_eq_decide.2 (by omega)
          rw [this, if_neg e]) (fun _ => rfl))
      have HO3 := Lib.hid (HO.out.trans hO3)
      clear hM3 hO3 hbB
      go_wp2_with (go_at_call 37; ((with_reducible refine HCK.out.mono ?_); rintro e w' ⟨rfl, rfl⟩))
      go_roundg (gk - 1)
      case measure => omega
      case rel => exact ⟨k + 1, _, by omega, by omega, by go_num, by omega, HM3, HO3⟩
    · have hN : N = cnt 4096 (delT b c k) := HM.out.cnt fun x hx => by
        unfold delT at hx
        simp only [Bool.and_eq_true] at hx
        have h1 := HB.out.ok.th x hx.1
        omega
      have hNb : N ≤ b.n := by rw [hN]; exact cnt_le fun x hx => by unfold delT at hx; simp only [Bool.and_eq_true] at hx; exact hx.1
      have hbS := HO.out.block S hSl HNE.out.2.1
      have s1 : wr.drew.cell? ⟨S, 1, none⟩ = some (.int .i64 (used : Int)) := (World.cell?_of_block (a := ⟨S, 1, none⟩) hbS).trans HS.out.c1
      have f1 : wr.drew.frozen? ⟨S, 1, none⟩ = false := (World.frozen?_of_block (a := ⟨S, 1, none⟩) hbS).trans HS.out.f1
      have d2 : wr.drew.cell? ⟨B, 2, none⟩ = some (.map (some M)) := hc2
      have hln : (Builtin.len_ #[66] 3 #[.map (some M)]).run Try.prog wr.drew = .ok (.int .i64 (N : Int)) wr.drew := MapAt.len (w := wr.drew) HM.out 3
      have HN := Lib.hid hN
      have HBS := Lib.hid hbS
      have HBB := Lib.hid hbB
      clear hN hbS hbB
      go_wp2_with (go_at_call 37; ((with_reducible refine HCK.out.mono ?_); rintro e w' ⟨rfl, rfl⟩))
      go_region
      obtain ⟨U, hU⟩ : ∃ U : Nat, U = used - (b.n - N) := ⟨_, rfl⟩
      have hUi : (used : Int) - ((b.n : Int) - (N : Int)) = (U : Int) := by omega
      rw [hUi]
      have W1 : StoC (wr.setCell ⟨S, 1, none⟩ (.int .i64 (U : Int))).drew S room U := ((HS.out.below HBS.out).set U).drew
      have W2 : BodC (wr.setCell ⟨S, 1, none⟩ (.int .i64 (U : Int))).drew S B M b.size := (HB.out.c.below HBB.out).below (set_block fun e => HNE.out.1 e.symm)
      have W3 : MapAt (wr.setCell ⟨S, 1, none⟩ (.int .i64 (U : Int))).drew M (delT b c k) (delD b c k) N := HM.out.of_block (set_block fun e => HNE.out.2.1 e.symm)
      have W4 : Only (fp S B M) w (wr.setCell ⟨S, 1, none⟩ (.int .i64 (U : Int))).drew := ((HO.out.mono (G := fp S B M) fun x hx => Or.inr (Or.inr hx)).setCell (p := ⟨S, 1, none⟩) (Or.inl rfl) _).drew
      generalize (wr.setCell ⟨S, 1, none⟩ (.int .i64 (U : Int))).drew = W at *
      have HWI := Lib.hid (wipe_any S B M b.size N n (delT b c k) (delD b c k) W W2 W3 hn)
      have HW1 := Lib.hid W1
      have HW2 := Lib.hid W2
      have HW4 := Lib.hid W4
      have HU := Lib.hid hU
      clear W1 W2 W3 W4 hU hUi s1 f1 d2 hln hc2 hc1 c1 c2
      have hBW := HW4.out.size
      go_wp2_with fail
      refine HWI.out.mono ?_
      rintro e w6 ⟨rfl, hm6, ho6⟩
      have hb6 := ho6.block B (Nat.lt_of_lt_of_le hB hBW) HNE.out.2.2
      have e1 := (World.cell?_of_block (a := ⟨B, 1, none⟩) hb6).trans HW2.out.c1
      have e2 := (World.frozen?_of_block (a := ⟨B, 1, none⟩) hb6).trans HW2.out.f1
      have HM6 := Lib.hid hm6
      have HO6 := Lib.hid ho6
      have HB6 := Lib.hid hb6
      clear hm6 ho6 hb6
      go_wp2
      go_ret
      have hS6 := HO6.out.block S (Nat.lt_of_lt_of_le hSl hBW) HNE.out.2.1
      have hcN : (cutB b n).n = N := by
        rw [HN.out]
        exact cnt_congr fun x => (delT_cut HB.out.ok HC.out hck (by have := HD.out; omega) x).symm
      refine ⟨?_, ?_, ?_, ?_⟩
      · rw [HCR.out]; rfl
      · rw [HCUT.out, hcN, show used + N - b.n = U from by rw [HU.out]; omega]
        exact (HW1.out.below hS6).below (set_block HNE.out.1)
      · rw [HCUT.out]
        refine Bod.of (N := N) ((HW2.out.below HB6.out).set n) ?_ ⟨hn, fun x hx => ?_, fun i hi => ?_⟩
        · refine (HM6.out.of_block (set_block fun e => HNE.out.2.2 e.symm)).ext (fun x => ?_) fun i => ?_
          · exact (delT_cut HB.out.ok HC.out hck (by have := HD.out; omega) x).symm
          · unfold cutB wiped delD
            dsimp only
            have h1 := HC.out
            have h2 := HD.out
            have h3 := HB.out.ok.dat i
            by_cases hi : i < n
            · rw [if_pos hi, if_neg (by omega), if_neg (by omega)]
            · rw [if_neg hi]
              by_cases h4 : i / 16 = n / 16
              · rw [if_pos (by omega)]
              · rw [if_neg (by omega)]
                by_cases h5 : i / 16 < k
                · rw [if_pos (by omega)]
                · rw [if_neg (by omega), h3 (by omega)]
        · simp only [cutB, Bool.and_eq_true, decide_eq_true_eq] at hx ⊢
          exact hx.2
        · simp only [cutB] at hi ⊢
          rw [if_neg (by omega)]
      · exact (HW4.out.trans (HO6.out.mono fun x hx => Or.inr (Or.inr hx))).setCell (Or.inr (Or.inl rfl)) _

theorem free_any (S B M room used : Nat) (b : AB) (w : World) (hb : Bod w S B M b) (hs : StoC w S room used) (hu : b.n ≤ used) (hr : used ≤ 65536) (hSB : S ≠ B) (hSM : S ≠ M) (hBM : B ≠ M) :
    Calls Try.prog 21 #[Pq S, Pq B] w (fun e w' => e = .returned (.tuple #[]) ∧ BodE w S B M room used b (cut b 0) w') := by
  have h := cut_any S B M room used b 0 w hb hs hu hr hSB hSM hBM
  clear hb hs hu hr hSB hSM hBM
  go_enter Try.func21, Try.ntmps21
  go_wp2_with (go_at_call 19; ((with_reducible refine h.mono ?_); rintro e w' ⟨rfl, h2⟩))
  go_end0
  exact ⟨rfl, h2⟩
end Go.Proofs.Ytpnnonphagddgaa
