/- Part 41 of what is known of the program's functions and of the document's words: contracts, and the mathematics beneath them. -/
import Derived.Test.YtpmpbmjjlccbbaaGreatProg
import Derived.Test.YtpmpbmjjlccbbaaGreatZ40
import Derived.Test.YtpmpbmjjlccbbaaGreatZ25
set_option linter.unusedVariables false
set_option linter.unusedSimpArgs false
set_option maxRecDepth 100000
set_option maxHeartbeats 8000000
namespace Go.Proofs.YtpmpbmjjlccbbaaGreat.tr
open Go.RowKit
open br (BS Inv Ino)
open cb (BrX RetW RetI)
open bl (Pq)
open wk (walkT pe pn pd e0 r0 dot1 dot2)
open ds (De Tb DA DV DL GetE StE IntsE lowV openT getV errV setT closeT full allT dz)
open pa (Bs Sv Strs Own own_form info9 own_base)
theorem set6r {w : World} {b : Nat} {u0 u1 u2 u3 u4 u5 : Value} (h : Rw w b [u0, u1, u2, u3, u4, u5]) (v0 v1 v2 v3 v4 v5 : Value) :
  Rw ((((((w.setCell ⟨b, 0, none⟩ v0).setCell ⟨b, 1, none⟩ v1).setCell ⟨b, 2, none⟩ v2).setCell ⟨b, 3, none⟩ v3).setCell ⟨b, 4, none⟩ v4).setCell ⟨b, 5, none⟩ v5) b [v0, v1, v2, v3, v4, v5] :=
 (((((h.set (i := 0) (by simp) v0).set (i := 1) (by simp) v1).set (i := 2) (by simp) v2).set (i := 3) (by simp) v3).set (i := 4) (by simp) v4).set (i := 5) (by simp) v5
theorem St.set6 {w0 w W : World} {P B Q n room T : Nat} {X : Nat → Prop} {y : Sy} (h : St w0 w W P B Q X n y room T) {b : Nat} (h1 : w.heap.size ≤ b) (h2 : b < n) (v0 v1 v2 v3 v4 v5 : Value) :
  St w0 w ((((((W.setCell ⟨b, 0, none⟩ v0).setCell ⟨b, 1, none⟩ v1).setCell ⟨b, 2, none⟩ v2).setCell ⟨b, 3, none⟩ v3).setCell ⟨b, 4, none⟩ v4).setCell ⟨b, 5, none⟩ v5) P B Q X n y room T :=
 (((((h.set h1 h2 v0).set h1 h2 v1).set h1 h2 v2).set h1 h2 v3).set h1 h2 v4).set h1 h2 v5
def sB (s : ByteArray) : Nat → UInt8 := fun j => s.data[j]?.getD 0
theorem conv_bytes (w : World) (s : ByteArray) (hs : s.size ≤ 1000000) : ∃ c w', (convert 9 80 (.string s)).run Tryz.prog w = .ok (.slice (some ⟨w.heap.size, 0, none⟩) s.size c) w' ∧ s.size ≤ c ∧ c ≤ maxLen ∧ Below w.heap.size w w' ∧ w.heap.size < w'.heap.size ∧ ∀ j, j < s.size → w'.cell? ⟨w.heap.size, 0 + j, none⟩ = some (bl.U8 (sB s j)) := by
 refine ⟨_, _, Lib.run_convert_string_bytes w 9 80 5 s Tryz.underlying9 Tryz.underlying80 Tryz.underlying5, grownCap_ge _ _ _ _, grownCap_le_maxLen _ _ _ _ (by unfold maxLen; omega), ?_, by rw [Lib.bytesWorld_size]; omega, fun j hj => ?_⟩
 ·refine ⟨?_, ?_, ?_, by rw [Lib.bytesWorld_size]; omega, fun k hk => Lib.bytesWorld_at_old w 5 s k hk⟩
  ·simp [Lib.bytesWorld, World.freeze] <;> rfl
  ·simp [Lib.bytesWorld, World.freeze] <;> rfl
  ·simp [Lib.bytesWorld, World.freeze] <;> rfl
 ·rw [Nat.zero_add, Lib.bytesWorld_cell w 5 s j hj]
  unfold sB bl.U8
  simp
def takeV (S : BS) (i off n : Int) : Value :=
 if n < 0 ∨ off < 0 then RV 22 0 ⟨#[]⟩ 0 0 0
 else RV (cb.readI S i off (min n 65536)).1 ((cb.readI S i off (min n 65536)).2 : Int) (bl.strF (cb.readI S i off (min n 65536)).2 fun j => (S.at i).body.dat (off.toNat + j)) 0 0 0
theorem take_no {S : BS} {i off n : Int} (h : n < 0 ∨ off < 0) : takeV S i off n = RV 22 0 ⟨#[]⟩ 0 0 0 := if_pos h
theorem take_any {w0 w : World} {P B Q room T : Nat} {X : Nat → Prop} {y : Sy} (h : SyX w0 w P B Q X y room T) (i off n : Int) :
  Calls Tryz.prog 121 #[Pq P, .int .i64 i, .int .i64 off, .int .i64 n] w (RetW w (takeV y.S i off n)) := by
 obtain ⟨b, hb⟩ : ∃ b, w.heap.size = b := ⟨_, rfl⟩
 obtain ⟨w1, hw1⟩ : ∃ w1, w.alloc (.cells #[.int .i64 0, .int .i64 0, .string ⟨#[]⟩, .int .i64 0, .int .i64 0, .int .i64 0] 39) = w1 := ⟨_, rfl⟩
 have hb1 : Below w.heap.size w w1 := by rw [← hw1]; exact bel_alloc w _
 have HR1 := Lib.hid (show Rw w1 b (RL 0 0 ⟨#[]⟩ 0 0 0) by rw [← hw1, ← hb]; exact Rw.new w (RL 0 0 ⟨#[]⟩ 0 0 0) 39)
 have HLB := Lib.hid (show w.heap.size ≤ b by omega)
 have HBL := Lib.hid (show b < w1.heap.size by rw [← hw1, World.size_alloc]; omega)
 have HB1 := Lib.hid hb1
 have HS1 := Lib.hid (h.below hb1)
 clear h hb1
 unfold RetW
 by_cases hneg : n < 0 ∨ off < 0
 ·have HF := Lib.hid (take_no (S := y.S) (i := i) hneg)
  by_cases h1 : n < 0
  all_goals
   first | (have h1' : 0 ≤ n := (by omega); have h2 : off < 0 := (by omega); clear h1 hneg) | clear hneg
   go_enter Tryz.func121, Tryz.ntmps121
   go_wp2_with fail
   refine (failed_any 22 w1).mono ?_
   rintro _ w3 ⟨rfl, hb3⟩
   have HB3 := Lib.hid hb3
   have HR3 := Lib.hid (HR1.out.below hb3)
   obtain ⟨x0, x1, x2, x3, x4, x5⟩ := HR3.out.six
   obtain ⟨y0, y1, y2, y3, y4, y5⟩ := HR3.out.z6
   clear hb3
   go_wp2_with fail
   obtain ⟨hx, hy⟩ := set6 (w0 := w) HR3.out (bel_step HB1.out HB3.out) HLB.out (.int .i64 22) (.int .i64 0) (.string ⟨#[]⟩) (.int .i64 0) (.int .i64 0) (.int .i64 0)
   refine bodyPost_ret (results_cell1 rfl _ _ b _ _ rfl hx.range Tryz.underlying39 (by rfl) (by rfl)) rfl ?_
   exact ⟨by first | (rw [HF.out]; done) | (rw [HF.out]; rfl), hy⟩
 have hn0 : 0 ≤ n := by omega
 have ho0 : 0 ≤ off := by omega
 have HF := Lib.hid (show takeV y.S i off n = _ from if_neg hneg)
 clear hneg
 have HK := Lib.hid (fun W m (hb : Below w1.heap.size w1 W) => p_read (HS1.out.below hb) i off m)
 unfold cb.ReadI at HK
 have k0 := HS1.out.c0
 have HK2 := Lib.hid (fun W hb => HK.out W (min n 65536) hb)
 generalize cb.readI y.S i off (min n 65536) = q at *
 obtain ⟨qe, ql⟩ := q
 dsimp only at HK2 HF
 clear HK
 go_enter Tryz.func121, Tryz.ntmps121
 go_wp2_with fail
 refine (HK2.out w1 (Below.refl _ _)).mono ?_
 rintro _ w3 ⟨A, c, rfl, hrow, hb3⟩
 have hcv := hrow.conv
 have HB3 := Lib.hid hb3
 have HR3 := Lib.hid (HR1.out.below hb3)
 obtain ⟨x0, x1, x2, x3, x4, x5⟩ := HR3.out.six
 obtain ⟨y0, y1, y2, y3, y4, y5⟩ := HR3.out.z6
 obtain ⟨sv, hsv⟩ : ∃ sv, bl.strF ql (fun j => (y.S.at i).body.dat (off.toNat + j)) = sv := ⟨_, rfl⟩
 rw [hsv] at hcv HF
 clear hsv hrow hb3 k0
 go_wp2_with fail
 obtain ⟨hx, hy⟩ := set6 (w0 := w) HR3.out (bel_step HB1.out HB3.out) HLB.out (.int .i64 qe) (.int .i64 ql) (.string sv) (.int .i64 0) (.int .i64 0) (.int .i64 0)
 refine bodyPost_ret (results_cell1 rfl _ _ b _ _ rfl hx.range Tryz.underlying39 (by rfl) (by rfl)) rfl ?_
 exact ⟨by first | (rw [HF.out]; done) | (rw [HF.out]; rfl), hy⟩
def PutE (w0 w : World) (P B Q : Nat) (X : Nat → Prop) (y : Sy) (room T : Nat) (i off : Int) (s : ByteArray) (e : Ending) (w' : World) : Prop :=
 ∃ (p : Nat) (err : Int) (S' : BS), cb.WrI y.S room i off s.size (sB s) p err S' ∧ StepE w0 w P B Q X (RV err (p : Int) ⟨#[]⟩ 0 0 0) ⟨S', y.T⟩ room (T + 1) e w'
theorem put_any {w0 w : World} {P B Q room T : Nat} {X : Nat → Prop} {y : Sy} (h : SyX w0 w P B Q X y room T) (i off : Int) (s : ByteArray) (hs : s.size ≤ 1000000) :
  Calls Tryz.prog 124 #[Pq P, .int .i64 i, .int .i64 off, .string s] w (PutE w0 w P B Q X y room T i off s) := by
 obtain ⟨b, hb⟩ : ∃ b, w.heap.size = b := ⟨_, rfl⟩
 obtain ⟨w1, hw1⟩ : ∃ w1, w.alloc (.cells #[.int .i64 0, .int .i64 0, .string ⟨#[]⟩, .int .i64 0, .int .i64 0, .int .i64 0] 39) = w1 := ⟨_, rfl⟩
 have hb1 : Below w.heap.size w w1 := by rw [← hw1]; exact bel_alloc w _
 have HR1 := Lib.hid (show Rw w1 b (RL 0 0 ⟨#[]⟩ 0 0 0) by rw [← hw1, ← hb]; exact Rw.new w (RL 0 0 ⟨#[]⟩ 0 0 0) 39)
 have HLB := Lib.hid (show w.heap.size ≤ b by omega)
 have HBL := Lib.hid (show b < w1.heap.size by rw [← hw1, World.size_alloc]; omega)
 have HB1 := Lib.hid hb1
 have HS1 := Lib.hid (h.below hb1)
 obtain ⟨c, w2, hcv, hc1, hc2, hb12, hlt, hcc⟩ := conv_bytes w1 s hs
 obtain ⟨g, hg⟩ : ∃ g, w1.heap.size = g := ⟨_, rfl⟩
 have hb2 := bel_step hb1 hb12
 have H2 := Lib.hid (St.start h hb2)
 have HR2 := Lib.hid (HR1.out.below hb12)
 have HN := Lib.hid (show w1.heap.size ≤ w2.heap.size from hb12.size)
 have HW := Lib.hid (p_write H2.out.sy i off (some ⟨g, 0, none⟩) s.size c (sB s) (fun j hj => ⟨g, 0, rfl, .inr ⟨by have := hb1.size; omega, by omega⟩, by rw [← hg]; exact hcc j hj⟩) hc1 hc2)
 rw [hg] at hcv
 have k0 := HS1.out.c0
 unfold PutE
 have HD := Lib.hid (fun (p : Nat) (err : Int) (S' : BS) (hw : cb.WrI y.S room i off s.size (sB s) p err S') W (hS : SyX w0 W P B Q X ⟨S', y.T⟩ room (T + 1) ∧ Keeps X w W) => (show ∃ (p' : Nat) (err' : Int) (S'' : BS), cb.WrI y.S room i off s.size (sB s) p' err' S'' ∧ StepE w0 w P B Q X (RV err' (p' : Int) ⟨#[]⟩ 0 0 0) ⟨S'', y.T⟩ room (T + 1) (.returned (RV err (p : Int) ⟨#[]⟩ 0 0 0)) W from ⟨p, err, S', hw, rfl, hS.1, hS.2⟩))
 clear h hb1 hb12 hb2 hcc hc1 hc2 hlt hg
 go_enter Tryz.func124, Tryz.ntmps124
 go_wp2_with fail
 refine HW.out.mono ?_
 rintro _ w3 ⟨p, err, S', hwi, rfl, k1, k2⟩
 have HWI := Lib.hid hwi
 have H3 := Lib.hid (H2.out.move k1 k2)
 have hb3 : b < w2.heap.size := by have := HN.out; have := HBL.out; omega
 have HB3 := Lib.hid hb3
 have HR3 := Lib.hid (HR2.out.keep k2 HLB.out hb3 k1)
 obtain ⟨x0, x1, x2, x3, x4, x5⟩ := HR3.out.six
 obtain ⟨y0, y1, y2, y3, y4, y5⟩ := HR3.out.z6
 clear hwi k1 k2 k0 hb3 hcv
 go_wp2_with fail
 have hx := set6r HR3.out (.int .i64 err) (.int .i64 (p : Int)) (.string ⟨#[]⟩) (.int .i64 0) (.int .i64 0) (.int .i64 0)
 have hy := H3.out.set6 (b := b) HLB.out HB3.out (.int .i64 err) (.int .i64 (p : Int)) (.string ⟨#[]⟩) (.int .i64 0) (.int .i64 0) (.int .i64 0)
 refine bodyPost_ret (results_cell1 rfl _ _ b _ _ rfl hx.range Tryz.underlying39 (by rfl) (by rfl)) rfl ?_
 exact HD.out p err S' HWI.out _ hy.done
theorem da_keep {w W : World} {A : Option Addr} {n c : Nat} {d : De} {X : Nat → Prop} (hd : DA w A n c d) (hx : 0 < n → ∃ ad, A = some ad ∧ X ad.block) (hk : Keeps X w W) (hl : ∀ b, X b → b < W.heap.size) : DA W A n c d := by
 refine ⟨hd.len, hd.cap, fun hn => ?_⟩
 obtain ⟨ad, e, h1, h2⟩ := hd.st hn
 obtain ⟨ad2, e2, hX⟩ := hx (by rw [hd.len]; exact hn)
 rw [e] at e2
 injection e2 with e2
 subst e2
 exact ⟨ad, e, hl _ hX, fun j x hj => (World.cell?_of_block (a := ad.add j) (by rw [pa.addr_block]; exact hk _ hX)).trans (h2 j x hj)⟩
theorem hand_any {w0 w : World} {P B Q room T : Nat} {X : Nat → Prop} {y : Sy} {A : Option Addr} {n c : Nat} {d : De} (h : SyX w0 w P B Q X y room T) (hT : T ≤ 1000) (hd : DA w A n c d) (hdx : 0 < n → ∃ ad, A = some ad ∧ X ad.block) (hn : n ≤ 4000) (h0 : (y.S.hold d.ino).1 = 0) :
  Calls Tryz.prog 117 #[Pq P, DV A n c d] w (StepE w0 w P B Q X (RV (lowV y.T).2 (lowV y.T).1 ⟨#[]⟩ 0 0 0) ⟨(y.S.hold d.ino).2, openT y.T d⟩ room (T + 1)) := by
 have HDA := Lib.hid hd
 have HDX := Lib.hid hdx
 obtain ⟨d0, d1, d2, d3, xs, d5⟩ := d
 unfold DV
 dsimp only at h0 ⊢
 obtain ⟨g, hg⟩ : ∃ g, w.heap.size = g := ⟨_, rfl⟩
 obtain ⟨w1, hw1⟩ : ∃ w1, w.alloc (.cells #[.int .i64 d0, .int .i64 d1, .int .i64 d2, .bool d3, .slice A n c, .int .i64 d5] 72) = w1 := ⟨_, rfl⟩
 obtain ⟨b, hb⟩ : ∃ b, w1.heap.size = b := ⟨_, rfl⟩
 obtain ⟨w2, hw2⟩ : ∃ w2, w1.alloc (.cells #[.int .i64 0, .int .i64 0, .string ⟨#[]⟩, .int .i64 0, .int .i64 0, .int .i64 0] 39) = w2 := ⟨_, rfl⟩
 have hb1 : Below w.heap.size w w1 := by rw [← hw1]; exact bel_alloc w _
 have hb12 : Below w1.heap.size w1 w2 := by rw [← hw2]; exact bel_alloc w1 _
 have HG1 := Lib.hid (show Rw w1 g [.int .i64 d0, .int .i64 d1, .int .i64 d2, .bool d3, .slice A n c, .int .i64 d5] by rw [← hw1, ← hg]; exact Rw.new w [.int .i64 d0, .int .i64 d1, .int .i64 d2, .bool d3, .slice A n c, .int .i64 d5] 72)
 have HG2 := Lib.hid (HG1.out.below hb12)
 have HR2 := Lib.hid (show Rw w2 b (RL 0 0 ⟨#[]⟩ 0 0 0) by rw [← hw2, ← hb]; exact Rw.new w1 (RL 0 0 ⟨#[]⟩ 0 0 0) 39)
 have hs1 : w1.heap.size = w.heap.size + 1 := by rw [← hw1, World.size_alloc]
 have hs2 : w2.heap.size = w1.heap.size + 1 := by rw [← hw2, World.size_alloc]
 have HQ := Lib.hid (show (w.heap.size ≤ g ∧ g < w2.heap.size) ∧ w.heap.size ≤ b ∧ b < w2.heap.size by omega)
 have H2 := Lib.hid (St.start h (bel_step hb1 hb12))
 have H2d := Lib.hid (H2.out.below (Below.refl w2.heap.size w2).drew)
 have HG2d := Lib.hid (HG2.out.below (Below.refl w2.heap.size w2).drew)
 have HR2d := Lib.hid (HR2.out.below (Below.refl w2.heap.size w2).drew)
 have HH := Lib.hid (p_hold H2d.out.sy hT d0)
 unfold StepE at HH
 rw [h0] at HH
 generalize (y.S.hold d0).2 = S' at *
 have HN := Lib.hid hn
 have k0 := H2.out.c0
 have g0 := HG2.out.six.1
 obtain ⟨⟨lv, hlv⟩, le, hle⟩ : (∃ lv, (lowV y.T).1 = lv) ∧ ∃ le, (lowV y.T).2 = le := ⟨⟨_, rfl⟩, _, rfl⟩
 have HLV := Lib.hid (And.intro hlv hle)
 rw [hlv, hle]
 have HD := Lib.hid (fun W (hS : SyX w0 W P B Q X ⟨S', openT y.T ⟨d0, d1, d2, d3, xs, d5⟩⟩ room (T + 1) ∧ Keeps X w W) => (show StepE w0 w P B Q X (RV le lv ⟨#[]⟩ 0 0 0) ⟨S', openT y.T ⟨d0, d1, d2, d3, xs, d5⟩⟩ room (T + 1) (.returned (RV le lv ⟨#[]⟩ 0 0 0)) W from ⟨rfl, hS.1, hS.2⟩))
 clear h hb1 hb12 hs1 hs2 HG1 hd hdx hn h0 hlv hle
 go_enter Tryz.func117, Tryz.ntmps117
 go_wp2_with fail
 go_region_held3 (fun w' => w'.cell? ⟨P, 0, none⟩ = some (Pq B) ∧ w'.cell? ⟨g, 0, none⟩ = some (.int .i64 d0))
  (first | exact ⟨k0, g0⟩ | exact ⟨k0', g0'⟩ | assumption | go_keep)
  (first | (go_at_call 163; ((with_reducible refine HH.out.mono ?_); rintro _ w3 ⟨rfl, k1, k2⟩; have H3 := Lib.hid (H2d.out.move k1 k2); have HG3 := Lib.hid (HG2d.out.keep k2 HQ.out.1.1 HQ.out.1.2 k1); have HR3 := Lib.hid (HR2d.out.keep k2 HQ.out.2.1 HQ.out.2.2 k1); have k0' := k1.c0; have g0' := HG3.out.six.1)))
 all_goals
  have H3d := Lib.hid (H3.out.below (Below.refl w3.heap.size w3).drew)
  have HR3d := Lib.hid (HR3.out.below (Below.refl w3.heap.size w3).drew)
  have HDA3 := Lib.hid (da_keep HDA.out HDX.out H3d.out.kp (fun b hx => H3d.out.sy.lt (.inl hx)))
  have HO := Lib.hid (p_open H3d.out.sy HDA3.out HN.out)
  unfold StepE DV at HO
  dsimp only at HO
  rw [HLV.out.1, HLV.out.2] at HO
  obtain ⟨t0, t1, t2, t3, t4, t5⟩ := HG3.out.six
  have k4 := H3.out.c1
  clear k1 k2 k0 g0 k0' g0'
  go_wp2_with fail
  go_region_held3 (fun w' => w'.cell? ⟨P, 1, none⟩ = some (Pq Q) ∧ w'.cell? ⟨g, 0, none⟩ = some (.int .i64 d0) ∧ w'.cell? ⟨g, 1, none⟩ = some (.int .i64 d1) ∧ w'.cell? ⟨g, 2, none⟩ = some (.int .i64 d2) ∧ w'.cell? ⟨g, 3, none⟩ = some (.bool d3) ∧ w'.cell? ⟨g, 4, none⟩ = some (.slice A n c) ∧ w'.cell? ⟨g, 5, none⟩ = some (.int .i64 d5))
   (first | exact ⟨k4, t0, t1, t2, t3, t4, t5⟩ | exact k4' | assumption | go_keep)
   (first | (go_at_call 164; ((with_reducible refine HO.out.mono ?_); rintro _ w4 ⟨rfl, k1, k2⟩; have H4 := Lib.hid (H3d.out.move k1 k2); have HR4 := Lib.hid (HR3d.out.keep k2 HQ.out.2.1 HQ.out.2.2 k1); have HG4 := Lib.hid ((HG3.out.below (Below.refl w3.heap.size w3).drew).keep k2 HQ.out.1.1 HQ.out.1.2 k1); have k4' := And.intro k1.c1 HG4.out.six)))
  all_goals
   obtain ⟨x0, x1, x2, x3, x4, x5⟩ := HR4.out.six
   obtain ⟨y0, y1, y2, y3, y4, y5⟩ := HR4.out.z6
   clear k1 k2 k4 t0 t1 t2 t3 t4 t5 k4'
   go_wp2_with fail
   have hx := set6r HR4.out (.int .i64 le) (.int .i64 lv) (.string ⟨#[]⟩) (.int .i64 0) (.int .i64 0) (.int .i64 0)
   have hy := H4.out.set6 (b := b) HQ.out.2.1 HQ.out.2.2 (.int .i64 le) (.int .i64 lv) (.string ⟨#[]⟩) (.int .i64 0) (.int .i64 0) (.int .i64 0)
   refine bodyPost_ret (results_cell1 rfl _ _ b _ _ rfl hx.range Tryz.underlying39 (by rfl) (by rfl)) rfl ?_
   exact HD.out _ hy.done
end Go.Proofs.YtpmpbmjjlccbbaaGreat.tr
namespace Go.Proofs.YtpmpbmjjlccbbaaGreat.wk
open pa (Bs pnames pdirE perr nms comps perr_zero)
theorem pn_sz (t : ByteArray) : ∀ n ∈ pn t, n.size ≤ 60 := fun n hn => by
 unfold pn at hn
 rw [List.mem_map] at hn
 obtain ⟨x, hx, rfl⟩ := hn
 unfold pnames at hx
 split at hx
 ·rename_i h
  unfold nms at hx
  exact (perr_zero.1 h).2.2.2.1 x (List.mem_filter.1 hx).1
 ·cases hx
theorem walk_sz (X : Tr) (fol : Bool) (m : Nat) (a : Int) (ns : List ByteArray) (d : Bool) (hn : ∀ n ∈ ns, n.size ≤ 60) : (walkT X fol m a ns d).1.2.1.size ≤ 60 := by
 match ns with
 | [] => rw [w_nil]; exact (by decide : e0.size ≤ 60)
 | n :: r =>
  have hr : ∀ n ∈ r, n.size ≤ 60 := fun x hx => hn x (List.mem_cons_of_mem _ hx)
  have h0 : n.size ≤ 60 := hn n List.mem_cons_self
  have z : e0.size ≤ 60 := by decide
  by_cases hk : X.kind a = 2
  case neg => rw [w_kind hk]; exact z
  by_cases h1 : n = dot2
  ·subst h1
   rw [w_dots hk]
   exact walk_sz X fol m _ r d hr
  by_cases h2 : n = dot1
  ·subst h2
   rw [w_dot hk]
   exact walk_sz X fol m _ r d hr
  by_cases h3 : (X.get a n).2 = 0
  case neg =>
   rw [w_err hk h1 h2 h3]
   split
   ·exact h0
   ·exact z
  by_cases h4 : Lnk X fol a n r d
  ·match m with
   | 0 => rw [w_loop hk h1 h2 h3 h4]; exact z
   | k + 1 =>
    rw [w_link hk h1 h2 h3 h4]
    split
    ·exact z
    split
    ·exact z
    split
    ·exact z
    refine walk_sz X fol k _ _ _ fun x hx => ?_
    rcases List.mem_append.1 hx with hx | hx
    ·exact pn_sz _ x hx
    ·exact hr x hx
  ·by_cases h5 : r = []
   ·subst h5
    rw [w_last hk h1 h2 h3 h4]
    split
    ·exact z
    ·exact h0
   ·rw [w_on hk h1 h2 h3 h4 h5]
    exact walk_sz X fol m _ r d hr
termination_by (m, ns.length)
decreasing_by all_goals first | (apply Prod.Lex.left; omega) | (apply Prod.Lex.right; simp)
end Go.Proofs.YtpmpbmjjlccbbaaGreat.wk
