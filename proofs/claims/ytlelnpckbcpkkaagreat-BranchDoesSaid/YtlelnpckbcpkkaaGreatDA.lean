/- The document's own branch: Stat, Cut, Read, Write. -/
import Derived.Test.YtlelnpckbcpkkaaGreatD9
import Derived.Deep.RegionHeld3
namespace Go.Proofs.YtlelnpckbcpkkaaGreat.cb
open Go.RowKit
open Go.Proofs.YtlelnpckbcpkkaaGreat.br
open Go.Proofs.YtlelnpckbcpkkaaGreat.dn (En lget lset ldel nerr dotB Sorted getV DuX LaidX)
open Go.Proofs.YtlelnpckbcpkkaaGreat.bl (AB Only StoC Pq cut cutR wr WR U8 RF)
open Go.Proofs.YtlelnpckbcpkkaaGreat.bl.rx (RB RS2 Kp)
set_option linter.unusedVariables false
set_option linter.unusedSimpArgs false

theorem below_set {X : Nat} {w0 w1 : World} {b j : Nat} {v : Value} (h : Below X w0 w1) (hb : X ≤ b) : Below X w0 (w1.setCell ⟨b, j, none⟩ v) :=
  ⟨h.os, h.tape, h.output, by simpa [World.setCell] using h.size, fun k hk => (Below.heap_setCell _ _ _ _ (by show k ≠ b; omega)).trans (h.block k hk)⟩
theorem below_sets {X : Nat} {w0 : World} {b : Nat} (hb : X ≤ b) : ∀ (vs : List Value) (o : Nat) (w1 : World), Below X w0 w1 → Below X w0 (w1.setCells b o vs)
  | [], _, _, h => h
  | v :: r, o, w1, h => below_sets hb r (o + 1) _ (below_set h hb)
theorem st3_facts {w : World} {b : Nat} (ht : w.there b 0 3) (v0 v1 v2 : Value) : (w.setCells b 0 [v0, v1, v2]).cell? ⟨b, 0, none⟩ = some v0 ∧ (w.setCells b 0 [v0, v1, v2]).cell? ⟨b, 1, none⟩ = some v1 ∧ (w.setCells b 0 [v0, v1, v2]).cell? ⟨b, 2, none⟩ = some v2 := by
  have hr := World.rangeAt_setCells_same w b 0 [v0, v1, v2] ht
  have h0 := hr 0 _ rfl
  have h1 := hr 1 _ rfl
  have h2 := hr 2 _ rfl
  rw [Nat.zero_add] at h0 h1 h2
  exact ⟨h0, h1, h2⟩
section
variable {w w' : World} {D lo RS room : Nat} {pl : Nat → Pd} {tag : Nat → Nat} {S : BS}
set_option maxRecDepth 100000 in
set_option maxHeartbeats 1000000 in
theorem q_stat (h : DB w D lo RS pl tag S room) (hG : br.Good S room) (i : Int) : Calls Tryz.prog 61 #[Pq D, .int .i64 i] w (RetW w (statV S i)) := by
  have HB0 := Lib.hid (fun ob => dn.below_alloc w ob)
  have HI := Lib.hid (fun ob => q_is (h.below (dn.below_alloc w ob)) i)
  unfold RetQ at HI
  unfold RetW statV
  rcases isI_cases S i with hI | ⟨I, rfl, i1, i2, hn, hI⟩
  · rw [hI] at HI
    rw [show S.stat i = ((0, 0, 0), 2) by unfold BS.stat; rw [hI]; rfl]
    clear h hG hI
    go_enter Tryz.func61, Tryz.ntmps61
    go_wp2_with fail
    refine (HI.out _).mono ?_
    rintro e w3 ⟨rfl, rfl⟩
    go_wp2_with fail
    exact bodyPost_ret (v := .tuple #[.agg #[.int .i64 0, .int .i64 0, .int .i64 0], .int .i64 2]) (by simp [results, Tryz.results61, go_sem]) rfl ⟨rfl, HB0.out _⟩
  · rw [hI] at HI
    rw [stat_of i1 i2 hn]
    dsimp only
    have HD := Lib.hid (fun W (hb : Below w.heap.size w W) => (h.below hb).ino I i2)
    have hlD : w.heap.size ≠ D := by have := h.loD.1; omega
    obtain ⟨AB1, cB, hvB⟩ := bl.own_slice (h.ino I i2).b.rB
    have hbs := (hG.1.body I).size
    have hdl := hG.1.dirLen I
    have htl := hG.1.target I
    have HC5 := Lib.hid (fun W hb => (HD.out W hb).b.c0)
    have HC7 := Lib.hid (fun W hb => (HD.out W hb).d.d0)
    have HC8 := Lib.hid (fun W hb => (HD.out W hb).c8)
    have HC0 := Lib.hid (fun W hb => (HD.out W hb).c0)
    have HC1 := Lib.hid (fun W hb => (HD.out W hb).c1)
    rw [hvB] at HC5
    have hI0 : (0 : Int) ≤ (I : Int) := by omega
    have hI1 : (I : Int) < 201 := by omega
    have HSZ := Lib.hid (show ((S.ino I).kind = 1 → (S.ino I).sizeOf = (S.ino I).body.size) ∧ ((S.ino I).kind = 2 → (S.ino I).sizeOf = (S.ino I).dir.length) ∧ ((S.ino I).kind = 3 → (S.ino I).sizeOf = (S.ino I).target.size) ∧ ((S.ino I).kind ≠ 1 → (S.ino I).kind ≠ 2 → (S.ino I).kind ≠ 3 → (S.ino I).sizeOf = 0) from by
      unfold Ino.sizeOf
      refine ⟨fun e => by rw [if_pos e], fun e => by rw [if_neg (by omega), if_pos e], fun e => by rw [if_neg (by omega), if_neg (by omega), if_pos e], fun a b c => by rw [if_neg a, if_neg b, if_neg c]⟩)
    generalize (S.ino I).kind = kk at *
    generalize (S.ino I).links = ll at *
    generalize (S.ino I).sizeOf = sz at *
    generalize (S.ino I).body.size = bs at *
    generalize (S.ino I).dir.length = dl at *
    generalize dn.Ao (pl I).o = Ad at *
    generalize (pl I).c = cd at *
    generalize (S.ino I).target = tt at *
    clear h hG hI hn HD hvB
    obtain ⟨w5, hw5⟩ : ∃ w5, w.alloc (.cells #[.int .i64 0, .int .i64 0, .int .i64 0] 61) = w5 := ⟨_, rfl⟩
    have hb5 : Below w.heap.size w w5 := by rw [← hw5]; exact HB0.out _
    have B5 : Bx3 w5.drew w.heap.size (.int .i64 0) (.int .i64 0) (.int .i64 0) := by rw [← hw5]; exact (Bx3.new w _ _ _ 61).block rfl
    have hf5 : ∀ j, w5.drew.frozen? ⟨w.heap.size, j, none⟩ = false := fun j => by rw [← hw5]; simp
    have HTH := Lib.hid (show w5.drew.there w.heap.size 0 3 from fun j hj => ⟨by rw [Nat.zero_add]; match j, hj with | 0, _ => rw [B5.c0]; rfl | 1, _ => rw [B5.c1]; rfl | 2, _ => rw [B5.c2]; rfl, hf5 _⟩)
    clear B5
    have HI5 := Lib.hid (HI.out (.cells #[.int .i64 0, .int .i64 0, .int .i64 0] 61))
    rw [hw5] at HI5
    have d0 := HC0.out _ hb5
    have d0d := HC0.out _ hb5.drew
    have d1d := HC1.out _ hb5.drew
    have HBE := Lib.hid (fun vs => below_sets (b := w.heap.size) (Nat.le_refl _) vs 0 _ hb5.drew)
    clear HI HC0 HC1 HB0 hf5
    by_cases e1 : kk = 1
    · subst e1
      rw [HSZ.out.1 rfl]
      have d5 := HC5.out _ hb5
      clear HSZ HC5 HC7 HC8
      go_enter Tryz.func61, Tryz.ntmps61
      go_wp2_with fail
      refine HI5.out.mono ?_
      rintro e w3 ⟨rfl, hw3⟩
      subst hw3
      go_wp2_with fail
      go_still_tail 10, (by kernel_rfl)
      change wpList _ _ _ _ _ (World.drew _)
      refine wpList_store_mid (by rfl) 61 (.tmp 4) (.tmp 54) (by rfl) w.heap.size 0 #[.int .i64 1, .int .i64 (bs : Int), .int .i64 ll] (by rfl) (by rfl) HTH.out (by kernel_rfl) (by simp [Value.oneCell']) ?_
      have HBE := Lib.hid (HBE.out [.int .i64 1, .int .i64 (bs : Int), .int .i64 ll])
      obtain ⟨r0, r1, r2⟩ := st3_facts HTH.out (.int .i64 1) (.int .i64 (bs : Int)) (.int .i64 ll)
      change wpList _ _ _ _ _ (w3.drew.setCells w.heap.size 0 [.int .i64 1, .int .i64 (bs : Int), .int .i64 ll])
      generalize hw6 : w3.drew.setCells w.heap.size 0 [.int .i64 1, .int .i64 (bs : Int), .int .i64 ll] = w6 at *
      clear hw6
      go_wp2_with fail
      exact bodyPost_ret (v := .tuple #[.agg #[.int .i64 1, .int .i64 (bs : Int), .int .i64 ll], .int .i64 0]) (by simp [results, Tryz.results61, go_sem, r0, r1, r2]) rfl ⟨rfl, HBE.out⟩
    by_cases e2 : kk = 2
    · subst e2
      rw [HSZ.out.2.1 rfl]
      have d7 := HC7.out _ hb5
      clear HSZ HC5 HC7 HC8 e1
      go_enter Tryz.func61, Tryz.ntmps61
      go_wp2_with fail
      refine HI5.out.mono ?_
      rintro e w3 ⟨rfl, hw3⟩
      subst hw3
      go_wp2_with fail
      go_still_tail 10, (by kernel_rfl)
      change wpList _ _ _ _ _ (World.drew _)
      refine wpList_store_mid (by rfl) 61 (.tmp 4) (.tmp 54) (by rfl) w.heap.size 0 #[.int .i64 2, .int .i64 (dl : Int), .int .i64 ll] (by rfl) (by rfl) HTH.out (by kernel_rfl) (by simp [Value.oneCell']) ?_
      have HBE := Lib.hid (HBE.out [.int .i64 2, .int .i64 (dl : Int), .int .i64 ll])
      obtain ⟨r0, r1, r2⟩ := st3_facts HTH.out (.int .i64 2) (.int .i64 (dl : Int)) (.int .i64 ll)
      change wpList _ _ _ _ _ (w3.drew.setCells w.heap.size 0 [.int .i64 2, .int .i64 (dl : Int), .int .i64 ll])
      generalize hw6 : w3.drew.setCells w.heap.size 0 [.int .i64 2, .int .i64 (dl : Int), .int .i64 ll] = w6 at *
      clear hw6
      go_wp2_with fail
      exact bodyPost_ret (v := .tuple #[.agg #[.int .i64 2, .int .i64 (dl : Int), .int .i64 ll], .int .i64 0]) (by simp [results, Tryz.results61, go_sem, r0, r1, r2]) rfl ⟨rfl, HBE.out⟩
    by_cases e3 : kk = 3
    · subst e3
      rw [HSZ.out.2.2.1 rfl]
      have d8 := HC8.out _ hb5
      clear HSZ HC5 HC7 HC8 e1 e2
      go_enter Tryz.func61, Tryz.ntmps61
      go_wp2_with fail
      refine HI5.out.mono ?_
      rintro e w3 ⟨rfl, hw3⟩
      subst hw3
      go_wp2_with fail
      go_still_tail 10, (by kernel_rfl)
      change wpList _ _ _ _ _ (World.drew _)
      refine wpList_store_mid (by rfl) 61 (.tmp 4) (.tmp 54) (by rfl) w.heap.size 0 #[.int .i64 3, .int .i64 (tt.size : Int), .int .i64 ll] (by rfl) (by rfl) HTH.out (by kernel_rfl) (by simp [Value.oneCell']) ?_
      have HBE := Lib.hid (HBE.out [.int .i64 3, .int .i64 (tt.size : Int), .int .i64 ll])
      obtain ⟨r0, r1, r2⟩ := st3_facts HTH.out (.int .i64 3) (.int .i64 (tt.size : Int)) (.int .i64 ll)
      change wpList _ _ _ _ _ (w3.drew.setCells w.heap.size 0 [.int .i64 3, .int .i64 (tt.size : Int), .int .i64 ll])
      generalize hw6 : w3.drew.setCells w.heap.size 0 [.int .i64 3, .int .i64 (tt.size : Int), .int .i64 ll] = w6 at *
      clear hw6
      go_wp2_with fail
      exact bodyPost_ret (v := .tuple #[.agg #[.int .i64 3, .int .i64 (tt.size : Int), .int .i64 ll], .int .i64 0]) (by simp [results, Tryz.results61, go_sem, r0, r1, r2]) rfl ⟨rfl, HBE.out⟩
    rw [HSZ.out.2.2.2 e1 e2 e3]
    have q1 : (kk == 1) = false := by simpa using e1
    have q2 : (kk == 2) = false := by simpa using e2
    have q3 : (kk == 3) = false := by simpa using e3
    clear HSZ HC5 HC7 HC8 e1 e2 e3
    go_enter Tryz.func61, Tryz.ntmps61
    go_wp2_with fail
    refine HI5.out.mono ?_
    rintro e w3 ⟨rfl, hw3⟩
    subst hw3
    go_wp2_with fail
    go_still_tail 10, (by kernel_rfl)
    change wpList _ _ _ _ _ (World.drew _)
    refine wpList_store_mid (by rfl) 61 (.tmp 4) (.tmp 54) (by rfl) w.heap.size 0 #[.int .i64 kk, .int .i64 ((0 : Nat) : Int), .int .i64 ll] (by rfl) (by rfl) HTH.out (by kernel_rfl) (by simp [Value.oneCell']) ?_
    have HBE := Lib.hid (HBE.out [.int .i64 kk, .int .i64 ((0 : Nat) : Int), .int .i64 ll])
    obtain ⟨r0, r1, r2⟩ := st3_facts HTH.out (.int .i64 kk) (.int .i64 ((0 : Nat) : Int)) (.int .i64 ll)
    change wpList _ _ _ _ _ (w3.drew.setCells w.heap.size 0 [.int .i64 kk, .int .i64 ((0 : Nat) : Int), .int .i64 ll])
    generalize hw6 : w3.drew.setCells w.heap.size 0 [.int .i64 kk, .int .i64 ((0 : Nat) : Int), .int .i64 ll] = w6 at *
    clear hw6
    go_wp2_with fail
    exact bodyPost_ret (v := .tuple #[.agg #[.int .i64 kk, .int .i64 ((0 : Nat) : Int), .int .i64 ll], .int .i64 0]) (by simp [results, Tryz.results61, go_sem, r0, r1, r2]) rfl ⟨rfl, HBE.out⟩
set_option maxRecDepth 100000 in
set_option maxHeartbeats 1000000 in
theorem q_cut (h : DB w D lo RS pl tag S room) (hG : br.Good S room) (hr : room ≤ 65536) (i off : Int) : Calls Tryz.prog 57 #[Pq D, .int .i64 i, .int .i64 off] w (RetD w D lo RS tag (.int .i64 (S.cutI i off).1) (S.cutI i off).2 room) := by
  have HK := Lib.hid (q_file h i)
  unfold RetQ at HK
  by_cases h1 : S.fileE i = 0
  case neg =>
    rw [show S.cutI i off = (S.fileE i, S) by unfold BS.cutI; rw [if_pos h1]]
    have HF := Lib.hid h.nx
    generalize S.fileE i = x at *
    have hq : (x != 0) = true := by simpa using h1
    clear h hG h1
    go_enter Tryz.func57, Tryz.ntmps57
    go_wp2_with fail
    refine HK.out.mono ?_
    rintro e w3 ⟨rfl, rfl⟩
    go_wp2_with fail
    go_ret
    exact ⟨rfl, HF.out⟩
  rw [h1] at HK
  obtain ⟨I, rfl, i1, i2, hk⟩ := fileE_ok h1
  have hd := h.drew
  obtain ⟨g1, g2, g3⟩ := Good_body2 hG hr I
  have hRF : ¬ RF D (pl I).vB (pl I).vT RS := by
    rintro (e | e | e)
    · exact h.loD.2.2 e
    · have := h.tI I i2 RS (.inl e); rw [h.tS] at this; omega
    · have := h.tI I i2 RS (.inr (.inl e)); rw [h.tS] at this; omega
  have HC := Lib.hid (bl.rx.rcut_any (off := off) (hd.ino I i2).b g1 hd.sto hRF g2 g3 hd.loD.2.1)
  have HN := Lib.hid (fun W vB vT T (hr : RS2 w.drew W lo D (1 + I * 9 + 5) RS room (S.used + (cut (S.ino I).body off).n - (S.ino I).body.n) (RF D (pl I).vB (pl I).vT) vB vT (cut (S.ino I).body off) T) => NxD.trans (Stp.below ((Below.refl _ w).drew)) (hd.body i2 hk hr))
  have c0 := hd.c0
  rw [show S.cutI (I : Int) off = (cutR off, ⟨br.upd S.ino I { S.ino I with body := cut (S.ino I).body off }, S.used + (cut (S.ino I).body off).n - (S.ino I).body.n⟩) by unfold BS.cutI; rw [if_neg (by omega), at_nat, Int.toNat_natCast]]
  dsimp only
  obtain ⟨S2, hS2⟩ : ∃ S2, BS.mk (br.upd S.ino I { S.ino I with body := cut (S.ino I).body off }) (S.used + (cut (S.ino I).body off).n - (S.ino I).body.n) = S2 := ⟨_, rfl⟩
  rw [hS2] at HN ⊢
  unfold bl.rx.RCutE at HC
  have hI0 : (0 : Int) ≤ (I : Int) := by omega
  have hI1 : (I : Int) < 201 := by omega
  generalize cutR off = cr at *
  clear h hd hG h1 hk g1 g2 g3 hRF hS2
  go_enter Tryz.func57, Tryz.ntmps57
  go_wp2_with fail
  refine HK.out.mono ?_
  rintro e w3 ⟨rfl, hw3⟩
  subst hw3
  go_wp2_with fail
  go_still_tail 11, (by kernel_rfl)
  change wpList _ _ _ _ _ (World.drew _)
  go_wp2_with fail
  refine HC.out.mono ?_
  rintro e w4 ⟨rfl, vB, vT, T, hr⟩
  have HF := Lib.hid (HN.out _ _ _ _ hr)
  clear hr HC HN
  go_wp2_with fail
  go_ret
  exact ⟨rfl, HF.out⟩
end
end Go.Proofs.YtlelnpckbcpkkaaGreat.cb
