/- Part 28 of what is known of the program's functions and of the document's words: contracts, and the mathematics beneath them. -/
import Derived.Test.YtgoddboicjfkcaaGreatProg
import Derived.Test.YtgoddboicjfkcaaGreatZ27
import Derived.Deep.RegionHeld3
import Derived.Laws.StructEq
set_option linter.unusedVariables false
set_option linter.unusedSimpArgs false
set_option maxRecDepth 100000
set_option maxHeartbeats 8000000
namespace Go.Proofs.YtgoddboicjfkcaaGreat.cb
open Go.RowKit
open br
open dn (En lget lset ldel nerr dotB Sorted getV DuX LaidX)
open bl (AB Only StoC Pq cut cutR wr WR U8 RF)
open bl.rx (RB RS2 Kp)
theorem below_set {X : Nat} {w0 w1 : World} {b j : Nat} {v : Value} (h : Below X w0 w1) (hb : X ≤ b) : Below X w0 (w1.setCell ⟨b, j, none⟩ v) :=
 ⟨h.os, h.tape, h.output, by simpa [World.setCell] using h.size, fun k hk => (Below.heap_setCell _ _ _ _ (by show k ≠ b; omega)).trans (h.block k hk)⟩
theorem below_sets {X : Nat} {w0 : World} {b : Nat} (hb : X ≤ b) : ∀ (vs : List Value) (o : Nat) (w1 : World), Below X w0 w1 → Below X w0 (w1.setCells b o vs)
 | [], _, _, h => h
 | v :: r, o, w1, h => below_sets hb r (o + 1) _ (below_set h hb)
theorem st3_facts {w : World} {b : Nat} (ht : w.there b 0 3) (v0 v1 v2 : Value) : (w.setCells b 0 [v0, v1, v2]).cell? ⟨b, 0, none⟩ = some v0 ∧ (w.setCells b 0 [v0, v1, v2]).cell? ⟨b, 1, none⟩ = some v1 ∧ (w.setCells b 0 [v0, v1, v2]).cell? ⟨b, 2, none⟩ = some v2 := by
 have hr := World.rangeAt_setCells_same w b 0 [v0, v1, v2] ht
 have h0 := hr 0 _ rfl
 have h1 := hr 1 _ rfl
 have h2 := hr 2 _ rfl
 rw [Nat.zero_add] at h0 h1 h2
 exact ⟨h0, h1, h2⟩
section
variable {w w' : World} {D lo RS room : Nat} {pl : Nat → Pd} {tag : Nat → Nat} {S : BS}
theorem q_stat (h : DB w D lo RS pl tag S room) (hG : br.Good S room) (i : Int) : Calls Tryz.prog 84 #[Pq D, .int .i64 i] w (RetW w (statV S i)) := by
 have HB0 := Lib.hid (fun ob => dn.below_alloc w ob)
 have HI := Lib.hid (fun ob => q_is (h.below (dn.below_alloc w ob)) i)
 unfold RetQ at HI
 unfold RetW statV
 rcases isI_cases S i with hI | ⟨I, rfl, i1, i2, hn, hI⟩
 ·rw [hI] at HI
  rw [show S.stat i = ((0, 0, 0), 2) by unfold BS.stat; rw [hI]; rfl]
  clear h hG hI
  go_enter Tryz.func84, Tryz.ntmps84
  go_wp2_with fail
  refine (HI.out _).mono ?_
  rintro e w3 ⟨rfl, rfl⟩
  go_wp2_with fail
  exact bodyPost_ret (v := .tuple #[.agg #[.int .i64 0, .int .i64 0, .int .i64 0], .int .i64 2]) (by simp [results, Tryz.results84, go_sem]) rfl ⟨rfl, HB0.out _⟩
 ·rw [hI] at HI
  rw [stat_of i1 i2 hn]
  dsimp only
  have HD := Lib.hid (fun W (hb : Below w.heap.size w W) => (h.below hb).ino I i2)
  have hlD : w.heap.size ≠ D := by have := h.loD.1; omega
  obtain ⟨AB1, cB, hvB⟩ := bl.own_slice (h.ino I i2).b.rB
  have hbs := (hG.1.body I).size
  have hdl := hG.1.dirLen I
  have htl := hG.1.target I
  have HC5 := Lib.hid (fun W hb => (HD.out W hb).b.c0)
  have HC7 := Lib.hid (fun W hb => (HD.out W hb).d.d0)
  have HC8 := Lib.hid (fun W hb => (HD.out W hb).c8)
  have HC0 := Lib.hid (fun W hb => (HD.out W hb).c0)
  have HC1 := Lib.hid (fun W hb => (HD.out W hb).c1)
  rw [hvB] at HC5
  have hI0 : (0 : Int) ≤ (I : Int) := by omega
  have hI1 : (I : Int) < 201 := by omega
  have HSZ := Lib.hid (show ((S.ino I).kind = 1 → (S.ino I).sizeOf = (S.ino I).body.size) ∧ ((S.ino I).kind = 2 → (S.ino I).sizeOf = (S.ino I).dir.length) ∧ ((S.ino I).kind = 3 → (S.ino I).sizeOf = (S.ino I).target.size) ∧ ((S.ino I).kind ≠ 1 → (S.ino I).kind ≠ 2 → (S.ino I).kind ≠ 3 → (S.ino I).sizeOf = 0) from by
   unfold Ino.sizeOf
   refine ⟨fun e => by rw [if_pos e], fun e => by rw [if_neg (by omega), if_pos e], fun e => by rw [if_neg (by omega), if_neg (by omega), if_pos e], fun a b c => by rw [if_neg a, if_neg b, if_neg c]⟩)
  generalize (S.ino I).kind = kk at *
  generalize (S.ino I).links = ll at *
  generalize (S.ino I).sizeOf = sz at *
  generalize (S.ino I).body.size = bs at *
  generalize (S.ino I).dir.length = dl at *
  generalize dn.Ao (pl I).o = Ad at *
  generalize (pl I).c = cd at *
  generalize (S.ino I).target = tt at *
  clear h hG hI hn HD hvB
  obtain ⟨w5, hw5⟩ : ∃ w5, w.alloc (.cells #[.int .i64 0, .int .i64 0, .int .i64 0] 47) = w5 := ⟨_, rfl⟩
  have hb5 : Below w.heap.size w w5 := by rw [← hw5]; exact HB0.out _
  have B5 : Bx3 w5.drew w.heap.size (.int .i64 0) (.int .i64 0) (.int .i64 0) := by rw [← hw5]; exact (Bx3.new w _ _ _ 47).block rfl
  have hf5 : ∀ j, w5.drew.frozen? ⟨w.heap.size, j, none⟩ = false := fun j => by rw [← hw5]; simp
  have HTH := Lib.hid (show w5.drew.there w.heap.size 0 3 from fun j hj => ⟨by rw [Nat.zero_add]; match j, hj with | 0, _ => rw [B5.c0]; rfl | 1, _ => rw [B5.c1]; rfl | 2, _ => rw [B5.c2]; rfl, hf5 _⟩)
  clear B5
  have HI5 := Lib.hid (HI.out (.cells #[.int .i64 0, .int .i64 0, .int .i64 0] 47))
  rw [hw5] at HI5
  have d0 := HC0.out _ hb5
  have d0d := HC0.out _ hb5.drew
  have d1d := HC1.out _ hb5.drew
  have HBE := Lib.hid (fun vs => below_sets (b := w.heap.size) (Nat.le_refl _) vs 0 _ hb5.drew)
  clear HI HC0 HC1 HB0 hf5
  by_cases e1 : kk = 1
  ·subst e1
   rw [HSZ.out.1 rfl]
   have d5 := HC5.out _ hb5
   clear HSZ HC5 HC7 HC8
   go_enter Tryz.func84, Tryz.ntmps84
   go_wp2_with fail
   refine HI5.out.mono ?_
   rintro e w3 ⟨rfl, hw3⟩
   subst hw3
   go_wp2_with fail
   go_still_tail 10, (by kernel_rfl)
   change wpList _ _ _ _ _ (World.drew _)
   refine wpList_store_mid (by rfl) 47 (.tmp 4) (.tmp 54) (by rfl) w.heap.size 0 #[.int .i64 1, .int .i64 (bs : Int), .int .i64 ll] (by rfl) (by rfl) HTH.out (by kernel_rfl) (by simp [Value.oneCell']) ?_
   have HBE := Lib.hid (HBE.out [.int .i64 1, .int .i64 (bs : Int), .int .i64 ll])
   obtain ⟨r0, r1, r2⟩ := st3_facts HTH.out (.int .i64 1) (.int .i64 (bs : Int)) (.int .i64 ll)
   change wpList _ _ _ _ _ (w3.drew.setCells w.heap.size 0 [.int .i64 1, .int .i64 (bs : Int), .int .i64 ll])
   generalize hw6 : w3.drew.setCells w.heap.size 0 [.int .i64 1, .int .i64 (bs : Int), .int .i64 ll] = w6 at *
   clear hw6
   go_wp2_with fail
   exact bodyPost_ret (v := .tuple #[.agg #[.int .i64 1, .int .i64 (bs : Int), .int .i64 ll], .int .i64 0]) (by simp [results, Tryz.results84, go_sem, r0, r1, r2]) rfl ⟨rfl, HBE.out⟩
  by_cases e2 : kk = 2
  ·subst e2
   rw [HSZ.out.2.1 rfl]
   have d7 := HC7.out _ hb5
   clear HSZ HC5 HC7 HC8 e1
   go_enter Tryz.func84, Tryz.ntmps84
   go_wp2_with fail
   refine HI5.out.mono ?_
   rintro e w3 ⟨rfl, hw3⟩
   subst hw3
   go_wp2_with fail
   go_still_tail 10, (by kernel_rfl)
   change wpList _ _ _ _ _ (World.drew _)
   refine wpList_store_mid (by rfl) 47 (.tmp 4) (.tmp 54) (by rfl) w.heap.size 0 #[.int .i64 2, .int .i64 (dl : Int), .int .i64 ll] (by rfl) (by rfl) HTH.out (by kernel_rfl) (by simp [Value.oneCell']) ?_
   have HBE := Lib.hid (HBE.out [.int .i64 2, .int .i64 (dl : Int), .int .i64 ll])
   obtain ⟨r0, r1, r2⟩ := st3_facts HTH.out (.int .i64 2) (.int .i64 (dl : Int)) (.int .i64 ll)
   change wpList _ _ _ _ _ (w3.drew.setCells w.heap.size 0 [.int .i64 2, .int .i64 (dl : Int), .int .i64 ll])
   generalize hw6 : w3.drew.setCells w.heap.size 0 [.int .i64 2, .int .i64 (dl : Int), .int .i64 ll] = w6 at *
   clear hw6
   go_wp2_with fail
   exact bodyPost_ret (v := .tuple #[.agg #[.int .i64 2, .int .i64 (dl : Int), .int .i64 ll], .int .i64 0]) (by simp [results, Tryz.results84, go_sem, r0, r1, r2]) rfl ⟨rfl, HBE.out⟩
  by_cases e3 : kk = 3
  ·subst e3
   rw [HSZ.out.2.2.1 rfl]
   have d8 := HC8.out _ hb5
   clear HSZ HC5 HC7 HC8 e1 e2
   go_enter Tryz.func84, Tryz.ntmps84
   go_wp2_with fail
   refine HI5.out.mono ?_
   rintro e w3 ⟨rfl, hw3⟩
   subst hw3
   go_wp2_with fail
   go_still_tail 10, (by kernel_rfl)
   change wpList _ _ _ _ _ (World.drew _)
   refine wpList_store_mid (by rfl) 47 (.tmp 4) (.tmp 54) (by rfl) w.heap.size 0 #[.int .i64 3, .int .i64 (tt.size : Int), .int .i64 ll] (by rfl) (by rfl) HTH.out (by kernel_rfl) (by simp [Value.oneCell']) ?_
   have HBE := Lib.hid (HBE.out [.int .i64 3, .int .i64 (tt.size : Int), .int .i64 ll])
   obtain ⟨r0, r1, r2⟩ := st3_facts HTH.out (.int .i64 3) (.int .i64 (tt.size : Int)) (.int .i64 ll)
   change wpList _ _ _ _ _ (w3.drew.setCells w.heap.size 0 [.int .i64 3, .int .i64 (tt.size : Int), .int .i64 ll])
   generalize hw6 : w3.drew.setCells w.heap.size 0 [.int .i64 3, .int .i64 (tt.size : Int), .int .i64 ll] = w6 at *
   clear hw6
   go_wp2_with fail
   exact bodyPost_ret (v := .tuple #[.agg #[.int .i64 3, .int .i64 (tt.size : Int), .int .i64 ll], .int .i64 0]) (by simp [results, Tryz.results84, go_sem, r0, r1, r2]) rfl ⟨rfl, HBE.out⟩
  rw [HSZ.out.2.2.2 e1 e2 e3]
  have q1 : (kk == 1) = false := by simpa using e1
  have q2 : (kk == 2) = false := by simpa using e2
  have q3 : (kk == 3) = false := by simpa using e3
  clear HSZ HC5 HC7 HC8 e1 e2 e3
  go_enter Tryz.func84, Tryz.ntmps84
  go_wp2_with fail
  refine HI5.out.mono ?_
  rintro e w3 ⟨rfl, hw3⟩
  subst hw3
  go_wp2_with fail
  go_still_tail 10, (by kernel_rfl)
  change wpList _ _ _ _ _ (World.drew _)
  refine wpList_store_mid (by rfl) 47 (.tmp 4) (.tmp 54) (by rfl) w.heap.size 0 #[.int .i64 kk, .int .i64 ((0 : Nat) : Int), .int .i64 ll] (by rfl) (by rfl) HTH.out (by kernel_rfl) (by simp [Value.oneCell']) ?_
  have HBE := Lib.hid (HBE.out [.int .i64 kk, .int .i64 ((0 : Nat) : Int), .int .i64 ll])
  obtain ⟨r0, r1, r2⟩ := st3_facts HTH.out (.int .i64 kk) (.int .i64 ((0 : Nat) : Int)) (.int .i64 ll)
  change wpList _ _ _ _ _ (w3.drew.setCells w.heap.size 0 [.int .i64 kk, .int .i64 ((0 : Nat) : Int), .int .i64 ll])
  generalize hw6 : w3.drew.setCells w.heap.size 0 [.int .i64 kk, .int .i64 ((0 : Nat) : Int), .int .i64 ll] = w6 at *
  clear hw6
  go_wp2_with fail
  exact bodyPost_ret (v := .tuple #[.agg #[.int .i64 kk, .int .i64 ((0 : Nat) : Int), .int .i64 ll], .int .i64 0]) (by simp [results, Tryz.results84, go_sem, r0, r1, r2]) rfl ⟨rfl, HBE.out⟩
end
theorem NxD.c0 {w w' : World} {D lo RS room : Nat} {tag : Nat → Nat} {S' : BS} (h : NxD w w' D lo RS tag S' room) : w'.cell? ⟨D, 0, none⟩ = some (Pq RS) := by obtain ⟨pl, tg, h1, _⟩ := h; exact h1.c0
section
variable {w w' : World} {D lo RS room : Nat} {pl : Nat → Pd} {tag : Nat → Nat} {S : BS}
theorem q_read (h : DB w D lo RS pl tag S room) (hG : br.Good S room) (i off n : Int) : Calls Tryz.prog 86 #[Pq D, .int .i64 i, .int .i64 off, .int .i64 n] w (fun e w' => ∃ v, e = .returned (.tuple #[v, .int .i64 (readI S i off n).1]) ∧ w'.ownsRow w.heap.size 5 1 v (readI S i off n).2 (bl.rowF (readI S i off n).2 (fun j => (S.at i).body.dat (off.toNat + j))) ∧ Below w.heap.size w w') := by
 have HK := Lib.hid (q_file h i)
 unfold RetQ at HK
 by_cases h1 : S.fileE i = 0
 case neg =>
  rw [show readI S i off n = (S.fileE i, 0) by unfold readI; rw [if_pos h1]]
  have HO := Lib.hid (World.ownsRow_nil w w.heap.size 5 1)
  dsimp only
  rw [show bl.rowF 0 (fun j => (S.at i).body.dat (off.toNat + j)) = [] from rfl]
  generalize S.fileE i = x at *
  have hq : (x != 0) = true := by simpa using h1
  clear h hG h1
  go_enter Tryz.func86, Tryz.ntmps86
  go_wp2_with fail
  refine HK.out.mono ?_
  rintro e w3 ⟨rfl, rfl⟩
  go_wp2_with fail
  go_ret2
  exact ⟨_, rfl, HO.out, Below.refl _ _⟩
 rw [h1] at HK
 obtain ⟨I, rfl, i1, i2, hk⟩ := fileE_ok h1
 have hd := h.drew
 have HC := Lib.hid (bl.rx.rread_any (RS := RS) (hd.ino I i2).b (hG.1.body I).size off n)
 have c0 := hd.c0
 have hDl : D < w.heap.size := h.loD.1
 rw [show readI S (I : Int) off n = bl.readR (S.ino I).body off n by unfold readI; rw [if_neg (by omega), at_nat], at_nat]
 unfold bl.RReadE at HC
 have hI0 : (0 : Int) ≤ (I : Int) := by omega
 have hI1 : (I : Int) < 201 := by omega
 generalize (bl.readR (S.ino I).body off n).1 = r1 at *
 generalize (bl.readR (S.ino I).body off n).2 = r2 at *
 generalize bl.rowF r2 (fun j => (S.ino I).body.dat (off.toNat + j)) = L at *
 clear h hd hG h1 hk
 go_enter Tryz.func86, Tryz.ntmps86
 go_wp2_with fail
 refine HK.out.mono ?_
 rintro e w3 ⟨rfl, hw3⟩
 subst hw3
 go_wp2_with fail
 go_region_held3 (fun w' => w'.cell? ⟨D, 0, none⟩ = some (Pq RS))
  (first | exact c0 | exact c4 | assumption | go_keep)
  (first
  | (go_at_call 153; ((with_reducible refine HC.out.mono ?_); rintro e w4 ⟨v4, rfl, hown, hb4⟩; have c4 := (hb4.cell (p := ⟨D, 0, none⟩) hDl).trans c0)))
 all_goals
  go_wp2_with fail
  go_ret2
  exact ⟨_, rfl, hown, ((Below.refl _ _).drew : Below w3.heap.size w3 w3.drew).trans hb4⟩
theorem q_write (h : DB w D lo RS pl tag S room) (hG : br.Good S room) (hr : room ≤ 65536) (i off : Int) (A : Option Addr) (len dc : Nat) (f : Nat → UInt8) (hA : ∀ j, j < len → ∃ b o, A = some ⟨b, o, none⟩ ∧ tag b = 0 ∧ b < w.heap.size ∧ w.cell? ⟨b, o + j, none⟩ = some (U8 (f j))) (hlc : len ≤ dc) (hdc : dc ≤ maxLen) :
  Calls Tryz.prog 40 #[Pq D, .int .i64 i, .int .i64 off, .slice A len dc] w (fun e w' => (S.fileE i ≠ 0 ∧ e = .returned (.tuple #[.int .i64 0, .int .i64 (S.fileE i)]) ∧ w' = w) ∨ (S.fileE i = 0 ∧ ∃ (p : Nat) (err : Int), bl.WR (S.at i).body S.used room off len p err ∧ e = .returned (.tuple #[.int .i64 (p : Int), .int .i64 err]) ∧ NxD w w' D lo RS tag (S.wrote i off p f) room)) := by
 have HK := Lib.hid (q_file h i)
 unfold RetQ at HK
 by_cases h1 : S.fileE i = 0
 case neg =>
  obtain ⟨x, hx⟩ : ∃ x, S.fileE i = x := ⟨_, rfl⟩
  have HX := Lib.hid hx
  rw [hx] at HK h1
  have hq : (x != 0) = true := by simpa using h1
  have HN := Lib.hid h1
  clear h hG h1 hA hx hlc hdc
  go_enter Tryz.func40, Tryz.ntmps40
  go_wp2_with fail
  refine HK.out.mono ?_
  rintro e w3 ⟨rfl, rfl⟩
  go_wp2_with fail
  go_ret2
  exact .inl ⟨by rw [HX.out]; exact HN.out, by rw [HX.out]; rfl, rfl⟩
 have H1 := Lib.hid h1
 rw [h1] at HK
 obtain ⟨I, rfl, i1, i2, hk⟩ := fileE_ok h1
 have hd := h.drew
 obtain ⟨g1, g2, g3⟩ := Good_body2 hG hr I
 have hRF : ¬ RF D (pl I).vB (pl I).vT RS := by
  rintro (e | e | e)
  ·exact h.loD.2.2 e
  ·have := h.tI I i2 RS (.inl e); rw [h.tS] at this; omega
  ·have := h.tI I i2 RS (.inr (.inl e)); rw [h.tS] at this; omega
 have hB : bl.BytesIn w.drew (fun x => RF D (pl I).vB (pl I).vT x ∨ x = RS) A len f := fun j hj => by
  obtain ⟨b, o, e, ht, hlt, hc⟩ := hA j hj
  refine ⟨b, o, e, ?_, hlt, hc⟩
  rintro ((e | e | e) | e)
  ·rw [e, h.tD] at ht; cases ht
  ·have := h.tI I i2 b (.inl e); omega
  ·have := h.tI I i2 b (.inr (.inl e)); omega
  ·rw [e, h.tS] at ht; cases ht
 have HC := Lib.hid (bl.rx.rwrite_any (off := off) (hd.ino I i2).b g1 hd.sto hRF g2 hG.1.room hr hB hlc hdc hd.loD.2.1)
 have HN := Lib.hid (fun W p vB vT T (hr : RS2 w.drew W lo D (1 + I * 9 + 5) RS room (S.used + (wr (S.ino I).body off p f).n - (S.ino I).body.n) (RF D (pl I).vB (pl I).vT) vB vT (wr (S.ino I).body off p f) T) => show NxD w W D lo RS tag (S.wrote (I : Int) off p f) room from by
  have := NxD.trans (Stp.below ((Below.refl _ w).drew)) (hd.body i2 hk hr)
  unfold BS.wrote
  rw [at_nat, Int.toNat_natCast]
  exact this)
 have c0 := hd.c0
 rw [at_nat]
 unfold bl.rx.RWriteE at HC
 have hI0 : (0 : Int) ≤ (I : Int) := by omega
 have hI1 : (I : Int) < 201 := by omega
 clear h hd hG h1 hk g1 g2 g3 hRF hB hA hlc hdc
 go_enter Tryz.func40, Tryz.ntmps40
 go_wp2_with fail
 refine HK.out.mono ?_
 rintro e w3 ⟨rfl, hw3⟩
 subst hw3
 go_wp2_with fail
 go_region_held3 (fun w' => w'.cell? ⟨D, 0, none⟩ = some (Pq RS))
  (first | exact c0 | exact c4 | assumption | go_keep)
  (first
  | (go_at_call 109; ((with_reducible refine HC.out.mono ?_); rintro e w4 ⟨p4, err4, vB, vT, T, rfl, hw4, hr4⟩; have hn4 := HN.out _ _ _ _ _ hr4; have c4 := hn4.c0)))
 all_goals
  go_wp2_with fail
  go_ret2
  exact .inr ⟨H1.out, _, _, hw4, rfl, hn4⟩
end
end Go.Proofs.YtgoddboicjfkcaaGreat.cb
namespace Go.Proofs.YtgoddboicjfkcaaGreat.cb
open Go.RowKit Go.Shelf
open br
open dn (En Ev beq_names Ao lget lset ldel nerr dotB Sorted getV DuX LaidX RetB ERow encL encL_length encL_one below_drewN row_new below_grown_far below_alloc info37)
open bl (AB Only StoC Pq cut cutR wr WR U8 RF)
open bl.rx (RB RS2 Kp)
theorem sl_of_owns {w : World} {lo n : Nat} {v : Value} {L : List En} (h : w.ownsRow lo 125 2 v n (encL L)) (hn : n = L.length) : ∃ o c, v = .slice (Ao o) n c ∧ dn.Sl w lo o c L := by
 rcases h.2 with ⟨rfl, h0⟩ | ⟨g, cap, cur, rfl, _⟩
 ·subst h0
  exact ⟨none, 0, rfl, List.eq_nil_of_length_eq_zero hn.symm, rfl⟩
 ·exact ⟨some g, cap, rfl, (ERow.of_owns h hn).2, (ERow.of_owns h hn).1⟩
theorem all_src {w : World} {D x0 lo c : Nat} {o : Option Nat} {L : List En} (h : DuX w D x0 lo o c L) (hN : L.length ≤ 900000) :
  ∃ v' w1, (Builtin.append_ #[89, 89] 89 #[.slice (some ⟨w.heap.size, 0, none⟩) 0 0, .slice (Ao o) L.length c]).run Tryz.prog (w.alloc (.cells #[] 125)) = .ok v' w1 ∧ Below w.heap.size w w1 ∧ w1.ownsRow w.heap.size 125 2 v' L.length (encL L) := by
 obtain ⟨i0, hi, hz0, hz1, hz2⟩ := info_parts info37
 have hown := (row_new w).owns (Nat.le_refl _)
 have hb := below_alloc w (.cells #[] 125)
 cases o with
 | none =>
  obtain ⟨rfl, rfl⟩ := h.row
  refine ⟨.slice (some ⟨w.heap.size, 0, none⟩) 0 0, w.alloc (.cells #[] 125), ?_, hb, hown⟩
  simp [Builtin.append_, run_underlying Tryz.underlying89, sizeOf, typeInfo, hi, Builtin.lenOf, Builtin.firstCells, storeCells]
 | some G =>
  have hr := h.row.2.2
  have hr' := hr.of_block (hb.block G hr.lt)
  obtain ⟨v', w', h1, h2, h3, _⟩ := run_append_own (P := Tryz.prog) (w := w.alloc (.cells #[] 125)) w.heap.size 89 89 125 i0 _ 2 24 Tryz.underlying89 hi hz0 hz1 hz2 rfl (by decide) _ 0 (encL []) hown ⟨G, 0, none⟩ L.length c (encL L) (encL_length L) (fun j u hu => by
   have := hr'.cells hu
   by_cases hj : j = 0
   ·subst hj; simpa [Addr.add] using this
   ·simpa [Addr.add, hj] using this) (encL_one L) (by unfold maxLen; omega) (by omega) hb.size
  refine ⟨v', w', h1, below_grown_far hb h3 (Nat.le_refl _), ?_⟩
  simpa [encL] using h2
def AllQ (w : World) (r : List En × Int) (e : Ending) (w' : World) : Prop := ∃ o c, e = .returned (.tuple #[.slice (Ao o) r.1.length c, .int .i64 r.2]) ∧ dn.Sl w' w.heap.size o c r.1 ∧ Below w.heap.size w w'
section
variable {w w' : World} {D lo RS room : Nat} {pl : Nat → Pd} {tag : Nat → Nat} {S : BS}
theorem q_all (h : DB w D lo RS pl tag S room) (hG : br.Good S room) (i : Int) : Calls Tryz.prog 82 #[Pq D, .int .i64 i] w (AllQ w (S.all i)) := by
 have HI := Lib.hid (q_dir h i false)
 unfold RetQ at HI
 by_cases h1 : S.dirE i false = 0
 ·obtain ⟨I, rfl, d1, d2, hD, _⟩ := dirE_ok h1
  rw [show S.all (I : Int) = ((S.ino I).dir, 0) by unfold BS.all; rw [if_neg (by omega), at_nat]]
  rw [h1] at HI
  have hdx := (h.ino I d2).d
  have hN := hG.1.dirLen I
  obtain ⟨v1, w1, hrun, hb1, hown⟩ := all_src hdx (by omega)
  obtain ⟨o1, c1, rfl, hsl⟩ := sl_of_owns hown rfl
  have d0 := hdx.d0
  have d0' := (hdx.below (below_alloc w (.cells #[] 125))).d0
  have HRUN := Lib.hid hrun
  have HS := Lib.hid hsl
  have HB := Lib.hid hb1
  generalize (S.ino I).dir = L at *
  generalize hn : L.length = n at *
  have HN := Lib.hid hn
  clear h h1 hG hN hown hdx hrun hsl hb1 hn
  have hI0 : (0 : Int) ≤ (I : Int) := by omega
  have hI1 : (I : Int) < 201 := by omega
  go_enter Tryz.func82, Tryz.ntmps82
  go_wp2_with fail
  refine HI.out.mono ?_
  rintro e w2 ⟨rfl, rfl⟩
  go_wp2_with (at_builtin; refine Lib.wpList_append_run _ rfl (.tmp 13) (.tmp 21) 89 89 rfl _ _ rfl rfl _ _ HRUN.out ?_)
  go_wp2_with fail
  go_ret2
  exact ⟨o1, c1, by rw [show (L, (0 : Int)).1.length = n from HN.out]; rfl, HS.out, HB.out⟩
 ·have hv : S.all i = ([], S.dirE i false) := by unfold BS.all; rw [if_pos h1]
  rw [hv]
  generalize S.dirE i false = x at *
  have hr : (x != 0) = true := by simpa using h1
  clear h h1 hG hv
  go_enter Tryz.func82, Tryz.ntmps82
  go_wp2_with fail
  refine HI.out.mono ?_
  rintro e w2 ⟨rfl, rfl⟩
  go_wp2_with fail
  go_ret2
  exact ⟨none, 0, rfl, ⟨rfl, rfl⟩, Below.refl _ _⟩
end
end Go.Proofs.YtgoddboicjfkcaaGreat.cb
namespace Go.Proofs.YtgoddboicjfkcaaGreat.cb
open Go.RowKit
open br
open bl (AB Only StoC Pq U8 WR IsStop)
theorem DB.keepSame {w w' : World} {D lo RS room : Nat} {pl : Nat → Pd} {tag : Nat → Nat} {S : BS} (h : DB w D lo RS pl tag S room) (ho : ∀ b, tag b ≠ 0 → w'.heap[b]? = w.heap[b]?) : DB w' D lo RS pl tag S room := by
 have hD := ho D (by rw [h.tD]; decide)
 have hc : ∀ j, w'.cell? ⟨D, j, none⟩ = w.cell? ⟨D, j, none⟩ := fun j => World.cell?_of_block (a := ⟨D, j, none⟩) hD
 have hf : ∀ j, w'.frozen? ⟨D, j, none⟩ = w.frozen? ⟨D, j, none⟩ := fun j => World.frozen?_of_block (a := ⟨D, j, none⟩) hD
 refine ⟨(hc 0).trans h.c0, fun j => (hf j).trans (h.cf j), StoC.keep h.sto (ho RS (by rw [h.tS]; decide)), fun k hk => (h.ino k hk).keep (fun j _ => hc _) hf (fun b hb => ho b (by rw [h.tI k hk b hb]; omega)), h.tD, h.tS, h.tI, h.lo, fun b hb => ?_⟩
 rcases Nat.eq_zero_or_pos (tag b) with h0 | h0
 ·exact h0
 ·exfalso
  have h1 : tag b ≠ 0 := by omega
  have h2 := (h.lt h1).1
  have h3 := ho b h1
  rw [Array.getElem?_eq_none hb, Array.getElem?_eq_getElem h2] at h3
  cases h3
section
variable {w0 w w' : World} {P D RS room T : Nat} {X : Nat → Prop} {S1 S2 S1' S2' : BS}
theorem WR.eq {b : AB} {used room len p q : Nat} {off e1 e2 : Int} (h : WR b used room off len p e1) (k : WR b used room off len q e2) : p = q ∧ e1 = e2 := by
 rcases h with ⟨a1, a2, a3⟩ | ⟨a1, a2, a3, a4⟩ | ⟨a1, a2, a3, a4⟩ | ⟨a1, a2, a3, a4, a5⟩ <;> rcases k with ⟨b1, b2, b3⟩ | ⟨b1, b2, b3, b4⟩ | ⟨b1, b2, b3, b4⟩ | ⟨b1, b2, b3, b4, b5⟩ <;> first | omega | skip
 have := IsStop.eq a4 b4
 subst this
 exact ⟨rfl, a5.trans b5.symm⟩
end
end Go.Proofs.YtgoddboicjfkcaaGreat.cb
