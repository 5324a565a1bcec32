/- Part 8 of what is known of the program's functions and of the document's words: contracts, and the mathematics beneath them. -/
import Derived.Test.YtpmpbmjjlccbbaaGreatProg
import Derived.Test.YtpmpbmjjlccbbaaGreatZ07
set_option linter.unusedVariables false
set_option linter.unusedSimpArgs false
set_option maxRecDepth 100000
set_option maxHeartbeats 8000000
namespace Go.Proofs.YtpmpbmjjlccbbaaGreat.bl
open Go.RowKit
def cutB (b : AB) (n : Nat) : AB := ⟨n, fun k => b.th k && decide (16 * k < n), fun i => if i < n then b.dat i else 0⟩
def cut (b : AB) (off : Int) : AB := if 0 ≤ off ∧ off ≤ 65536 then cutB b off.toNat else b
def cutR (off : Int) : Int := if off < 0 then 22 else if 65536 < off then 27 else 0
theorem cnt_le {N : Nat} {f g : Nat → Bool} (h : ∀ k, f k = true → g k = true) : cnt N f ≤ cnt N g := by
 unfold cnt
 rw [← List.countP_eq_length_filter, ← List.countP_eq_length_filter]
 exact List.countP_mono_left fun x _ hx => h x hx
theorem StoC.drew {w : World} {S room used : Nat} (h : StoC w S room used) : StoC w.drew S room used := ⟨h.c0, h.c1, h.f1⟩
def fp (S B M : Nat) (x : Nat) : Prop := x = S ∨ x = B ∨ x = M
structure BodE (w : World) (S B M room used : Nat) (b b' : AB) (w' : World) : Prop where
 s : StoC w' S room (used + b'.n - b.n)
 b : Bod w' S B M b'
 o : Only (fp S B M) w w'
def CutE (w : World) (S B M room used : Nat) (b : AB) (off : Int) (e : Ending) (w' : World) : Prop :=
 e = .returned (.int .i64 (cutR off)) ∧ BodE w S B M room used b (cut b off) w'
def delT (b : AB) (c k : Nat) : Nat → Bool := fun x => b.th x && !(decide (c ≤ x ∧ x < k))
def delD (b : AB) (c k : Nat) : Nat → UInt8 := fun i => if c ≤ i / 16 ∧ i / 16 < k then 0 else b.dat i
theorem cnt_congr {N : Nat} {f g : Nat → Bool} (h : ∀ k, f k = g k) : cnt N f = cnt N g := by
 obtain rfl : f = g := funext h
 rfl
theorem delT_cut {b : AB} {n c k : Nat} (ok : b.Ok) (hc : c = (n + 15) / 16) (hck : c ≤ k) (hk : (b.size + 15) / 16 ≤ k) (x : Nat) : delT b c k x = (cutB b n).th x := by
 show (b.th x && !(decide (c ≤ x ∧ x < k))) = (b.th x && decide (16 * x < n))
 cases hx : b.th x
 ·rfl
 ·have h1 := ok.th x hx
  by_cases h : 16 * x < n
  ·have h2 : ¬ (c ≤ x ∧ x < k) := by omega
   simp [h, h2]
  ·have h2 : (c ≤ x ∧ x < k) := by omega
   simp [h, h2]
theorem wipe_any (S B M n N a : Nat) (th : Nat → Bool) (dat : Nat → UInt8) (w : World) (hb : BodC w S B M n) (hM : MapAt w M th dat N) (ha : a ≤ 65536) :
  Calls Tryz.prog 194 #[Pq B, .int .i64 (a : Int)] w (fun e w' => e = .returned (.tuple #[]) ∧ MapAt w' M th (wiped dat a (a / 16)) N ∧ Only (· = M) w w') := by
 cases ht : th (a / 16)
 ·refine (wipe_hole S B M n N a (a / 16) th dat w hb hM (by omega) ha ht).mono fun e w' ⟨he, hbl⟩ => ⟨he, ?_, Only.of_below hbl⟩
  refine (hM.of_block (hbl.block M hM.lt)).ext (fun _ => rfl) fun i => ?_
  unfold wiped
  split
  ·next h =>
   have := hM.holes (a / 16) ht (i % 16) (by omega)
   rw [show 16 * (a / 16) + i % 16 = i from by omega] at this
   exact this.symm
  ·rfl
 ·exact wipe_there S B M n N a (a / 16) (a % 16) th dat w hb hM (by omega) (by omega) ha ht
theorem cut_any (S B M room used : Nat) (b : AB) (off : Int) (w : World) (hb : Bod w S B M b) (hs : StoC w S room used) (hu : b.n ≤ used) (hr : used ≤ 65536) (hSB : S ≠ B) (hSM : S ≠ M) (hBM : B ≠ M) :
  Calls Tryz.prog 162 #[Pq S, Pq B, .int .i64 off] w (CutE w S B M room used b off) := by
 have ho := owns_any S B M b.size w hb.c
 have hSl := World.block_lt_of_cell? w _ hs.c0
 have hB := hb.ltB
 have hM := hb.ltM
 have hsz := hb.ok.size
 have HSAME := Lib.hid (show ∀ e v, cut b off = b → cutR off = v → e = .returned (.int .i64 v) → CutE w S B M room used b off e w from fun e v h1 h2 he =>
  ⟨by rw [h2]; exact he, by rw [h1, Nat.add_sub_cancel]; exact hs, by rw [h1]; exact hb, Only.refl _ _⟩)
 by_cases h0 : off < 0
 ·have HP := Lib.hid (HSAME.out _ 22 (by unfold cut; rw [if_neg (by omega)]) (by unfold cutR; rw [if_pos h0]) rfl)
  clear hsz hB hM hSB hSM hBM
  go_enter Tryz.func162, Tryz.ntmps162
  go_wp2
  go_ret
  exact HP.out
 by_cases h1 : 65536 < off
 ·have HP := Lib.hid (HSAME.out _ 27 (by unfold cut; rw [if_neg (by omega)]) (by unfold cutR; rw [if_neg (by omega), if_pos h1]) rfl)
  clear hsz hB hM hSB hSM hBM
  go_enter Tryz.func162, Tryz.ntmps162
  go_wp2_with (go_at_call 156; ((with_reducible refine ho.mono ?_); rintro e w' ⟨rfl, rfl⟩))
  go_ret
  exact HP.out
 obtain ⟨n, rfl⟩ : ∃ n : Nat, off = (n : Int) := ⟨off.toNat, by omega⟩
 have hn : n ≤ 65536 := by omega
 have hcut : cut b (n : Int) = cutB b n := by unfold cut; rw [if_pos (by omega), Int.toNat_natCast]
 have hcutR : cutR (n : Int) = 0 := by unfold cutR; rw [if_neg (by omega), if_neg (by omega)]
 have c1 := hb.c.c1
 have c2 := hb.c.c2
 have hlen := hb.m.len 3
 have hck := chunksTo_any n w (by omega)
 have HCUT := Lib.hid hcut
 have HCR := Lib.hid hcutR
 have HB := Lib.hid hb
 have HS := Lib.hid hs
 have HNE := Lib.hid (show S ≠ B ∧ S ≠ M ∧ B ≠ M from ⟨hSB, hSM, hBM⟩)
 clear hcut hcutR hb hs HSAME hSB hSM hBM
 obtain ⟨c, hc⟩ : ∃ c, c = (n + 15) / 16 := ⟨_, rfl⟩
 obtain ⟨d, hd⟩ : ∃ d, d = (b.size + 15) / 16 := ⟨_, rfl⟩
 rw [← hc] at hck
 have HC := Lib.hid hc
 have HD := Lib.hid hd
 have hcl : c ≤ 4096 := by omega
 have hdl : d ≤ 4096 := by omega
 clear hc hd
 go_enter Tryz.func162, Tryz.ntmps162
 go_wp2_with (first | (go_at_call 156; ((with_reducible refine ho.mono ?_); rintro e w' ⟨rfl, rfl⟩)) | (go_at_call 193; ((with_reducible refine hck.mono ?_); rintro e w' ⟨rfl, rfl⟩)))
 clear ho hck hlen
 go_loopg [9] (4096 - c) (fun g s9 wr => ∃ (k N : Nat), g + k = 4096 ∧ c ≤ k ∧ s9 = .int .i64 (k : Int) ∧ (k ≤ d ∨ k = c) ∧ Hid (MapAt wr M (delT b c k) (delD b c k) N) ∧ Hid (Only (· = M) w wr))
 case atStart => exact ⟨c, b.n, by omega, by omega, rfl, by omega, Lib.hid (HB.out.m.ext (fun x => by unfold delT; simp; omega) (fun i => by unfold delD; rw [if_neg (by omega)])), Lib.hid (Only.refl _ _)⟩
 case round =>
  obtain ⟨k, N, hg, hck, rfl, hkd, HM, HO⟩ := hrel
  have hbB := HO.out.block B hB HNE.out.2.2
  have hc2 := (World.cell?_of_block (a := ⟨B, 2, none⟩) hbB).trans c2
  have hc1 := (World.cell?_of_block (a := ⟨B, 1, none⟩) hbB).trans c1
  have HCK := Lib.hid (show Calls Tryz.prog 193 #[.int .i64 (b.size : Int)] wr (fun e w' => e = .returned (.int .i64 (d : Int)) ∧ wr = w') by rw [HD.out]; exact chunksTo_any b.size wr (by omega))
  by_cases hlt : k < d
  ·obtain ⟨w3, hdel, hM3, hO3⟩ := HM.out.del (dat' := delD b c (k + 1)) k (fun i hi => by
    unfold delD
    by_cases h : c ≤ i / 16 ∧ i / 16 < k
    ·rw [if_pos (by omega), if_pos h]
    ·rw [if_neg (by omega), if_neg h]) (fun j hj => by unfold delD; rw [if_pos (by omega)]) 0
   have HM3 := Lib.hid (hM3.ext (th' := delT b c (k + 1)) (fun x => by
    unfold updB delT
    by_cases e : x = k
    ·subst e
     have : decide (c ≤ x ∧ x < x + 1) = true := by simp; omega
     rw [this, if_pos rfl]; simp
    ·have : decide (c ≤ x ∧ x < k + 1) = decide (c ≤ x ∧ x < k) := decide_eq_decide.2 (by omega)
     rw [this, if_neg e]) (fun _ => rfl))
   have HO3 := Lib.hid (HO.out.trans hO3)
   clear hM3 hO3 hbB
   go_wp2_with (go_at_call 193; ((with_reducible refine HCK.out.mono ?_); rintro e w' ⟨rfl, rfl⟩))
   go_roundg (gk - 1)
   case measure => omega
   case rel => exact ⟨k + 1, _, by omega, by omega, by go_num, by omega, HM3, HO3⟩
  ·have hN : N = cnt 4096 (delT b c k) := HM.out.cnt fun x hx => by
    unfold delT at hx
    simp only [Bool.and_eq_true] at hx
    have h1 := HB.out.ok.th x hx.1
    omega
   have hNb : N ≤ b.n := by rw [hN]; exact cnt_le fun x hx => by unfold delT at hx; simp only [Bool.and_eq_true] at hx; exact hx.1
   have hbS := HO.out.block S hSl HNE.out.2.1
   have s1 : wr.drew.cell? ⟨S, 1, none⟩ = some (.int .i64 (used : Int)) := (World.cell?_of_block (a := ⟨S, 1, none⟩) hbS).trans HS.out.c1
   have f1 : wr.drew.frozen? ⟨S, 1, none⟩ = false := (World.frozen?_of_block (a := ⟨S, 1, none⟩) hbS).trans HS.out.f1
   have d2 : wr.drew.cell? ⟨B, 2, none⟩ = some (.map (some M)) := hc2
   have hln : (Builtin.len_ #[173] 3 #[.map (some M)]).run Tryz.prog wr.drew = .ok (.int .i64 (N : Int)) wr.drew := MapAt.len (w := wr.drew) HM.out 3
   have HN := Lib.hid hN
   have HBS := Lib.hid hbS
   have HBB := Lib.hid hbB
   clear hN hbS hbB
   go_wp2_with (go_at_call 193; ((with_reducible refine HCK.out.mono ?_); rintro e w' ⟨rfl, rfl⟩))
   go_region
   obtain ⟨U, hU⟩ : ∃ U : Nat, U = used - (b.n - N) := ⟨_, rfl⟩
   have hUi : (used : Int) - ((b.n : Int) - (N : Int)) = (U : Int) := by omega
   rw [hUi]
   have W1 : StoC (wr.setCell ⟨S, 1, none⟩ (.int .i64 (U : Int))).drew S room U := ((HS.out.below HBS.out).set U).drew
   have W2 : BodC (wr.setCell ⟨S, 1, none⟩ (.int .i64 (U : Int))).drew S B M b.size := (HB.out.c.below HBB.out).below (set_block fun e => HNE.out.1 e.symm)
   have W3 : MapAt (wr.setCell ⟨S, 1, none⟩ (.int .i64 (U : Int))).drew M (delT b c k) (delD b c k) N := HM.out.of_block (set_block fun e => HNE.out.2.1 e.symm)
   have W4 : Only (fp S B M) w (wr.setCell ⟨S, 1, none⟩ (.int .i64 (U : Int))).drew := ((HO.out.mono (G := fp S B M) fun x hx => Or.inr (Or.inr hx)).setCell (p := ⟨S, 1, none⟩) (Or.inl rfl) _).drew
   generalize (wr.setCell ⟨S, 1, none⟩ (.int .i64 (U : Int))).drew = W at *
   have HWI := Lib.hid (wipe_any S B M b.size N n (delT b c k) (delD b c k) W W2 W3 hn)
   have HW1 := Lib.hid W1
   have HW2 := Lib.hid W2
   have HW4 := Lib.hid W4
   have HU := Lib.hid hU
   clear W1 W2 W3 W4 hU hUi s1 f1 d2 hln hc2 hc1 c1 c2
   have hBW := HW4.out.size
   go_wp2_with fail
   refine HWI.out.mono ?_
   rintro e w6 ⟨rfl, hm6, ho6⟩
   have hb6 := ho6.block B (Nat.lt_of_lt_of_le hB hBW) HNE.out.2.2
   have e1 := (World.cell?_of_block (a := ⟨B, 1, none⟩) hb6).trans HW2.out.c1
   have e2 := (World.frozen?_of_block (a := ⟨B, 1, none⟩) hb6).trans HW2.out.f1
   have HM6 := Lib.hid hm6
   have HO6 := Lib.hid ho6
   have HB6 := Lib.hid hb6
   clear hm6 ho6 hb6
   go_wp2
   go_ret
   have hS6 := HO6.out.block S (Nat.lt_of_lt_of_le hSl hBW) HNE.out.2.1
   have hcN : (cutB b n).n = N := by
    rw [HN.out]
    exact cnt_congr fun x => (delT_cut HB.out.ok HC.out hck (by have := HD.out; omega) x).symm
   refine ⟨?_, ?_, ?_, ?_⟩
   ·rw [HCR.out]; rfl
   ·rw [HCUT.out, hcN, show used + N - b.n = U from by rw [HU.out]; omega]
    exact (HW1.out.below hS6).below (set_block HNE.out.1)
   ·rw [HCUT.out]
    refine Bod.of (N := N) ((HW2.out.below HB6.out).set n) ?_ ⟨hn, fun x hx => ?_, fun i hi => ?_⟩
    ·refine (HM6.out.of_block (set_block fun e => HNE.out.2.2 e.symm)).ext (fun x => ?_) fun i => ?_
     ·exact (delT_cut HB.out.ok HC.out hck (by have := HD.out; omega) x).symm
     ·unfold cutB wiped delD
      dsimp only
      have h1 := HC.out
      have h2 := HD.out
      have h3 := HB.out.ok.dat i
      by_cases hi : i < n
      ·rw [if_pos hi, if_neg (by omega), if_neg (by omega)]
      ·rw [if_neg hi]
       by_cases h4 : i / 16 = n / 16
       ·rw [if_pos (by omega)]
       ·rw [if_neg (by omega)]
        by_cases h5 : i / 16 < k
        ·rw [if_pos (by omega)]
        ·rw [if_neg (by omega), h3 (by omega)]
    ·simp only [cutB, Bool.and_eq_true, decide_eq_true_eq] at hx ⊢
     exact hx.2
    ·simp only [cutB] at hi ⊢
     rw [if_neg (by omega)]
   ·exact (HW4.out.trans (HO6.out.mono fun x hx => Or.inr (Or.inr hx))).setCell (Or.inr (Or.inl rfl)) _
theorem free_any (S B M room used : Nat) (b : AB) (w : World) (hb : Bod w S B M b) (hs : StoC w S room used) (hu : b.n ≤ used) (hr : used ≤ 65536) (hSB : S ≠ B) (hSM : S ≠ M) (hBM : B ≠ M) :
  Calls Tryz.prog 195 #[Pq S, Pq B] w (fun e w' => e = .returned (.tuple #[]) ∧ BodE w S B M room used b (cut b 0) w') := by
 have h := cut_any S B M room used b 0 w hb hs hu hr hSB hSM hBM
 clear hb hs hu hr hSB hSM hBM
 go_enter Tryz.func195, Tryz.ntmps195
 go_wp2_with (go_at_call 162; ((with_reducible refine h.mono ?_); rintro e w' ⟨rfl, h2⟩))
 go_end0
 exact ⟨rfl, h2⟩
def BytesIn (w : World) (F : Nat → Prop) (A : Option Addr) (n : Nat) (f : Nat → UInt8) : Prop := ∀ i, i < n → ∃ b off, A = some ⟨b, off, none⟩ ∧ ¬ F b ∧ b < w.heap.size ∧ w.cell? ⟨b, off + i, none⟩ = some (U8 (f i))
theorem BytesIn.only {w w' : World} {F : Nat → Prop} {A : Option Addr} {n : Nat} {f : Nat → UInt8} (h : BytesIn w F A n f) (ho : Only F w w') : BytesIn w' F A n f := fun i hi => by
 obtain ⟨b, off, e, hF, hl, h0⟩ := h i hi
 exact ⟨b, off, e, hF, Nat.lt_of_lt_of_le hl ho.size, (World.cell?_of_block (a := ⟨b, off + i, none⟩) (ho.block b hl hF)).trans h0⟩
theorem BytesIn.part {w : World} {F : Nat → Prop} {b off n p T : Nat} {f : Nat → UInt8} (h : BytesIn w F (some ⟨b, off, none⟩) n f) (hT : T ≤ n) : Bytes w w.heap.size (some ⟨b, off + p, none⟩) (T - p) (fun i => f (p + i)) := fun i hi => by
 obtain ⟨b', off', e, hF, hl, h0⟩ := h (p + i) (by omega)
 injection e with e
 injection e with e1 e2
 subst e1; subst e2
 exact ⟨b, off + p, rfl, hl, by rw [Nat.add_assoc]; exact h0⟩
def thW (b : AB) (s a : Nat) : Nat → Bool := fun k => b.th k || decide (s < a ∧ s < 16 * k + 16 ∧ 16 * k < a)
def usedW (b : AB) (used s a : Nat) : Nat := used + cnt 4096 (thW b s a) - b.n
def okW (b : AB) (used room s q : Nat) : Prop := thW b s (s + q) ((s + q) / 16) = true ∨ usedW b used s (s + q) < room
structure IsStop (b : AB) (used room s T p : Nat) : Prop where
 le : p ≤ T
 ok : ∀ q, q < p → okW b used room s q
 stop : p = T ∨ ¬ okW b used room s p
theorem IsStop.eq {b : AB} {used room s T p q : Nat} (h : IsStop b used room s T p) (k : IsStop b used room s T q) : p = q := by
 rcases Nat.lt_trichotomy p q with hl | e | hl
 ·exfalso
  rcases h.stop with e | e
  ·have := k.le; omega
  ·exact e (k.ok p hl)
 ·exact e
 ·exfalso
  rcases k.stop with e | e
  ·have := h.le; omega
  ·exact e (h.ok q hl)
def wrB (b : AB) (s p : Nat) (f : Nat → UInt8) : AB := ⟨if p = 0 then b.size else max b.size (s + p), thW b s (s + p), over b.dat s p f⟩
theorem thW_self (b : AB) (s : Nat) (k : Nat) : thW b s (s + 0) k = b.th k := by
 unfold thW
 have : ¬ (s < s + 0 ∧ s < 16 * k + 16 ∧ 16 * k < s + 0) := by omega
 simp only [decide_eq_false this, Bool.or_false]
theorem over_self (d f : Nat → UInt8) (s : Nat) (i : Nat) : over d s 0 f i = d i := by unfold over; rw [if_neg (by omega)]
theorem wrB_zero (b : AB) (s : Nat) (f : Nat → UInt8) : wrB b s 0 f = b := by
 obtain ⟨n, th, dat⟩ := b
 unfold wrB
 congr 1
 ·funext k; exact thW_self _ s k
 ·funext i; exact over_self _ _ _ _
theorem thW_lt {b : AB} (ok : b.Ok) {s a k : Nat} (ha : a ≤ 65536) (h : thW b s a k = true) : k < 4096 := by
 unfold thW at h
 simp only [Bool.or_eq_true, decide_eq_true_eq] at h
 rcases h with h | h
 ·have h1 := ok.th k h; have h2 := ok.size; omega
 ·omega
theorem wrB_ok {b : AB} (ok : b.Ok) {s p : Nat} (h : s + p ≤ 65536) (f : Nat → UInt8) : (wrB b s p f).Ok := by
 have h1 := ok.size
 refine ⟨?_, fun k hk => ?_, fun i hi => ?_⟩
 ·unfold wrB; dsimp only; split <;> omega
 ·unfold wrB at hk ⊢
  dsimp only at hk ⊢
  unfold thW at hk
  simp only [Bool.or_eq_true, decide_eq_true_eq] at hk
  rcases hk with hk | hk
  ·have h2 := ok.th k hk; split <;> omega
  ·split <;> omega
 ·unfold wrB at hi ⊢
  dsimp only at hi ⊢
  unfold over
  split at hi
  ·rw [if_neg (by omega)]; exact ok.dat i hi
  ·rw [if_neg (by omega)]; exact ok.dat i (by omega)
theorem thW_step {b : AB} {s p m k : Nat} (hk : (s + p) / 16 = k) (hm : 0 < m) (hm2 : s + p + m ≤ 16 * k + 16) (x : Nat) : thW b s (s + (p + m)) x = updB (thW b s (s + p)) k true x := by
 unfold updB
 by_cases e : x = k
 ·subst e
  rw [if_pos rfl]
  unfold thW
  have : s < s + (p + m) ∧ s < 16 * x + 16 ∧ 16 * x < s + (p + m) := by omega
  simp only [decide_eq_true this, Bool.or_true]
 ·rw [if_neg e]
  unfold thW
  congr 1
  apply decide_eq_decide.2
  constructor
  ·rintro ⟨h1, h2, h3⟩
   have : x < k := by omega
   omega
  ·rintro ⟨h1, h2, h3⟩
   omega
theorem over_step {d f : Nat → UInt8} {s p m : Nat} (i : Nat) : over d s (p + m) f i = over (over d s p f) (s + p) m (fun i => f (p + i)) i := by
 unfold over
 by_cases h1 : s + p ≤ i ∧ i < s + p + m
 ·rw [if_pos h1, if_pos (by omega)]; congr 1; omega
 ·rw [if_neg h1]
  by_cases h2 : s ≤ i ∧ i < s + p
  ·rw [if_pos h2, if_pos (by omega)]
  ·rw [if_neg h2, if_neg (by omega)]
def wr (b : AB) (off : Int) (p : Nat) (f : Nat → UInt8) : AB := wrB b off.toNat p f
def WR (b : AB) (used room : Nat) (off : Int) (len p : Nat) (err : Int) : Prop :=
 (off < 0 ∧ p = 0 ∧ err = 22) ∨ (0 ≤ off ∧ len = 0 ∧ p = 0 ∧ err = 0) ∨ (65536 ≤ off ∧ 0 < len ∧ p = 0 ∧ err = 27) ∨
 (0 ≤ off ∧ off < 65536 ∧ 0 < len ∧ IsStop b used room off.toNat (min len (65536 - off.toNat)) p ∧ err = if p = 0 then 28 else 0)
def WriteE (w : World) (S B M room used : Nat) (b : AB) (off : Int) (len : Nat) (f : Nat → UInt8) (e : Ending) (w' : World) : Prop :=
 ∃ (p : Nat) (err : Int), e = .returned (.tuple #[.int .i64 (p : Int), .int .i64 err]) ∧ WR b used room off len p err ∧ used + (wr b off p f).n - b.n ≤ room ∧ BodE w S B M room used b (wr b off p f) w'
theorem put_at (S B M n N k T s p sb so dc len : Nat) (F : Nat → Prop) (th : Nat → Bool) (dat f : Nat → UInt8) (w : World) (hb : BodC w S B M n) (hM : MapAt w M th dat N) (hk : (s + p) / 16 = k) (ht : th k = true)
  (ha : s + p ≤ 65536) (hs : BytesIn w F (some ⟨sb, so, none⟩) len f) (hp : p < T) (hT : T ≤ len) (off : Int) (ho : off = (s : Int)) :
  Calls Tryz.prog 210 #[Pq B, .int .i64 (off + (p : Int)), .slice (some ⟨sb, so + p, none⟩) (T - p) (dc - p)] w (fun e w' => ∃ m : Nat, e = .returned (.int .i64 (m : Int)) ∧ 0 < m ∧ p + m ≤ T ∧ s + p + m ≤ 16 * k + 16 ∧
   MapAt w' M th (over dat (s + p) m (fun i => f (p + i))) N ∧ Only (· = M) w w') := by
 have h := put_any S B M n N (s + p) k ((s + p) % 16) (T - p) (dc - p) (some ⟨sb, so + p, none⟩) th dat (fun i => f (p + i)) w hb hM (by omega) (by omega) ha (hs.part hT) (by omega)
 rw [show off + (p : Int) = ((s + p : Nat) : Int) from by omega]
 refine h.mono fun e w' ⟨he, h1, h2⟩ => ⟨_, he, by omega, by omega, by omega, ?_, h2⟩
 rw [addN, if_pos ht] at h1
 exact h1.ext (fun x => by unfold updB; by_cases e : x = k <;> simp [e, ht]) (fun _ => rfl)
structure Mid (w wr : World) (S B M room used s p N : Nat) (b : AB) (f : Nat → UInt8) : Prop where
 c : BodC wr S B M b.size
 m : MapAt wr M (thW b s (s + p)) (over b.dat s p f) N
 t : StoC wr S room (used + N - b.n)
 o : Only (fp S B M) w wr
 n : b.n ≤ N
 r : used + N - b.n ≤ room
theorem Mid.num {w wr : World} {S B M room used s p N : Nat} {b : AB} {f : Nat → UInt8} (h : Mid w wr S B M room used s p N b f) (ok : b.Ok) (hs : s + p ≤ 65536) : N = cnt 4096 (thW b s (s + p)) :=
 h.m.cnt fun _ hx => thW_lt ok hs hx
theorem thW_n (b : AB) (s p : Nat) (f : Nat → UInt8) : (wrB b s p f).n = cnt 4096 (thW b s (s + p)) := rfl
theorem Mid.below {w wr w' : World} {S B M room used s p N : Nat} {b : AB} {f : Nat → UInt8} (h : Mid w wr S B M room used s p N b f) (hb : Below wr.heap.size wr w') : Mid w w' S B M room used s p N b f :=
 ⟨h.c.below (hb.block B (World.block_lt_of_cell? wr _ h.c.c0)), h.m.of_block (hb.block M h.m.lt), h.t.below (hb.block S (World.block_lt_of_cell? wr _ h.t.c0)), h.o.trans (Only.of_below hb), h.n, h.r⟩
theorem okW_step {wr : World} {M N : Nat} {b : AB} {used room s p m k : Nat} {f : Nat → UInt8} (ok : b.Ok) (hM : MapAt wr M (thW b s (s + p)) (over b.dat s p f) N) (hsp : s + p ≤ 65536)
  (h : ∀ q, q < p → okW b used room s q) (hk : (s + p) / 16 = k) (hm : s + p + m ≤ 16 * k + 16) (hp : used + N - b.n < room ∨ thW b s (s + p) k = true) : ∀ q, q < p + m → okW b used room s q := by
 intro q hq
 have hN := hM.cnt (N := 4096) fun _ hx => thW_lt ok hsp hx
 by_cases h1 : q < p
 ·exact h q h1
 ·by_cases h2 : q = p
  ·subst h2
   unfold okW usedW
   rw [hk, ← hN]
   exact hp.symm
  ·refine Or.inl ?_
   rw [show (s + q) / 16 = k from by omega]
   unfold thW
   have : s < s + q ∧ s < 16 * k + 16 ∧ 16 * k < s + q := by omega
   simp only [decide_eq_true this, Bool.or_true]
theorem okW_not {wr : World} {M N : Nat} {b : AB} {used room s p k : Nat} {f : Nat → UInt8} (ok : b.Ok) (hM : MapAt wr M (thW b s (s + p)) (over b.dat s p f) N) (hsp : s + p ≤ 65536)
  (hk : (s + p) / 16 = k) (ht : thW b s (s + p) k = false) (hu : ¬ used + N - b.n < room) : ¬ okW b used room s p := by
 have hN := hM.cnt (N := 4096) fun _ hx => thW_lt ok hsp hx
 unfold okW usedW
 rw [hk, ← hN]
 rintro (h | h)
 ·rw [ht] at h; cases h
 ·exact hu h
theorem fin0 {w W : World} {S B M room used s T N len : Nat} {b : AB} {off : Int} {f : Nat → UInt8} (hb : Bod w S B M b) (hs : StoC w S room used) (hur : b.n ≤ used ∧ used ≤ room ∧ room ≤ 65536) (hT : 0 < len ∧ T = min len (65536 - s)) (ho : off = (s : Int))
  (he : IsStop b used room s T 0) (hm : Mid w W S B M room used s 0 N b f) (hs3 : off < 65536 := by omega) : WriteE w S B M room used b off len f (.returned (.tuple #[.int .i64 0, .int .i64 28])) W := by
 subst ho
 have hw : wr b (s : Int) 0 f = b := wrB_zero _ _ _
 have hm2 : MapAt W M b.th b.dat N := hm.m.ext (fun x => (thW_self b s x).symm) (fun i => (over_self b.dat f s i).symm)
 have hbW : Bod W S B M b := Bod.of hm.c hm2 hb.ok
 have hN : N = b.n := hm2.cnt (N := 4096) fun k hk => by have h1 := hb.ok.th k hk; have h2 := hb.ok.size; omega
 have hmt := hm.t
 rw [hN] at hmt
 refine ⟨0, 28, rfl, Or.inr (Or.inr (Or.inr ⟨by omega, hs3, hT.1, ?_, rfl⟩)), by rw [hw]; omega, ?_⟩
 ·rw [Int.toNat_natCast, ← hT.2]; exact he
 ·rw [hw]
  exact ⟨hmt, hbW, hm.o⟩
theorem fin1 {w W : World} {S B M room used s T N len p : Nat} {b : AB} {off : Int} {f : Nat → UInt8} (hb : Bod w S B M b) (hne : S ≠ B ∧ S ≠ M ∧ B ≠ M) (hur : b.n ≤ used ∧ used ≤ room ∧ room ≤ 65536) (hT : 0 < len ∧ T = min len (65536 - s)) (ho : off = (s : Int))
  (hT2 : s + T ≤ 65536) (he : IsStop b used room s T p) (hm : Mid w W S B M room used s p N b f) (hp : ¬ p = 0) (hs3 : off < 65536 := by omega) :
  (b.size ≤ s + p → WriteE w S B M room used b off len f (.returned (.tuple #[.int .i64 (p : Int), .int .i64 0])) (W.setCell ⟨B, 1, none⟩ (.int .i64 (off + (p : Int))))) ∧
  (s + p ≤ b.size → WriteE w S B M room used b off len f (.returned (.tuple #[.int .i64 (p : Int), .int .i64 0])) (W.setCell ⟨B, 1, none⟩ (.int .i64 (b.size : Int)))) := by
 subst ho
 have hle := he.le
 have hN := hm.num hb.ok (by omega)
 have hwn : (wrB b s p f).n = N := by rw [thW_n, hN]
 have main : ∀ u : Nat, u = max b.size (s + p) → WriteE w S B M room used b (s : Int) len f (.returned (.tuple #[.int .i64 (p : Int), .int .i64 0])) (W.setCell ⟨B, 1, none⟩ (.int .i64 (u : Int))) := by
  intro u hu
  have hw : wr b (s : Int) p f = wrB b s p f := by unfold wr; rw [Int.toNat_natCast]
  have hsz : (wrB b s p f).size = u := by unfold wrB; dsimp only; rw [if_neg hp, hu]
  refine ⟨p, 0, rfl, Or.inr (Or.inr (Or.inr ⟨by omega, hs3, hT.1, ?_, by rw [if_neg hp]⟩)), ?_, ?_⟩
  ·rw [Int.toNat_natCast, ← hT.2]; exact he
  ·rw [hw, hwn]; exact hm.r
  ·rw [hw]
   refine ⟨?_, Bod.of (N := N) ?_ ?_ (wrB_ok hb.ok (by omega) f), hm.o.setCell (Or.inr (Or.inl rfl)) _⟩
   ·rw [hwn]; exact hm.t.below (set_block hne.1)
   ·rw [hsz]; exact hm.c.set u
   ·exact hm.m.of_block (set_block fun e => hne.2.2 e.symm)
 refine ⟨fun h => ?_, fun h => main b.size (by omega)⟩
 have := main (s + p) (by omega)
 rw [show ((s + p : Nat) : Int) = (s : Int) + (p : Int) from by omega] at this
 exact this
end Go.Proofs.YtpmpbmjjlccbbaaGreat.bl
