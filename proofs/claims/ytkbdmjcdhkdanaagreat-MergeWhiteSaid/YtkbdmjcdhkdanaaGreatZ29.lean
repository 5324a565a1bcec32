/- The document's own branch: Stat, Cut, Read, Write. The document's own branch: Read, Write. Entries held against each other; the document's All. Both branches side by side: what a call on one does to the other. -/
import Derived.Test.YtkbdmjcdhkdanaaGreatZ28
import Derived.Deep.RegionHeld3
import Derived.Laws.StructEq
section
namespace Go.Proofs.YtkbdmjcdhkdanaaGreat.cb
open Go.RowKit
open Go.Proofs.YtkbdmjcdhkdanaaGreat.br
open Go.Proofs.YtkbdmjcdhkdanaaGreat.dn (En lget lset ldel nerr dotB Sorted getV DuX LaidX)
open Go.Proofs.YtkbdmjcdhkdanaaGreat.bl (AB Only StoC Pq cut cutR wr WR U8 RF)
open Go.Proofs.YtkbdmjcdhkdanaaGreat.bl.rx (RB RS2 Kp)
set_option linter.unusedVariables false
set_option linter.unusedSimpArgs false

theorem below_set {X : Nat} {w0 w1 : World} {b j : Nat} {v : Value} (h : Below X w0 w1) (hb : X ≤ b) : Below X w0 (w1.setCell ⟨b, j, none⟩ v) :=
  ⟨h.os, h.tape, h.output, by simpa [World.setCell] using h.size, fun k hk => (Below.heap_setCell _ _ _ _ (by show k ≠ b; omega)).trans (h.block k hk)⟩
theorem below_sets {X : Nat} {w0 : World} {b : Nat} (hb : X ≤ b) : ∀ (vs : List Value) (o : Nat) (w1 : World), Below X w0 w1 → Below X w0 (w1.setCells b o vs)
  | [], _, _, h => h
  | v :: r, o, w1, h => below_sets hb r (o + 1) _ (below_set h hb)
theorem st3_facts {w : World} {b : Nat} (ht : w.there b 0 3) (v0 v1 v2 : Value) : (w.setCells b 0 [v0, v1, v2]).cell? ⟨b, 0, none⟩ = some v0 ∧ (w.setCells b 0 [v0, v1, v2]).cell? ⟨b, 1, none⟩ = some v1 ∧ (w.setCells b 0 [v0, v1, v2]).cell? ⟨b, 2, none⟩ = some v2 := by
  have hr := World.rangeAt_setCells_same w b 0 [v0, v1, v2] ht
  have h0 := hr 0 _ rfl
  have h1 := hr 1 _ rfl
  have h2 := hr 2 _ rfl
  rw [Nat.zero_add] at h0 h1 h2
  exact ⟨h0, h1, h2⟩
section
variable {w w' : World} {D lo RS room : Nat} {pl : Nat → Pd} {tag : Nat → Nat} {S : BS}
set_option maxRecDepth 100000 in
set_option maxHeartbeats 1000000 in
theorem q_stat (h : DB w D lo RS pl tag S room) (hG : br.Good S room) (i : Int) : Calls Tryz.prog 63 #[Pq D, .int .i64 i] w (RetW w (statV S i)) := by
  have HB0 := Lib.hid (fun ob => dn.below_alloc w ob)
  have HI := Lib.hid (fun ob => q_is (h.below (dn.below_alloc w ob)) i)
  unfold RetQ at HI
  unfold RetW statV
  rcases isI_cases S i with hI | ⟨I, rfl, i1, i2, hn, hI⟩
  · rw [hI] at HI
    rw [show S.stat i = ((0, 0, 0), 2) by unfold BS.stat; rw [hI]; rfl]
    clear h hG hI
    go_enter Tryz.func63, Tryz.ntmps63
    go_wp2_with fail
    refine (HI.out _).mono ?_
    rintro e w3 ⟨rfl, rfl⟩
    go_wp2_with fail
    exact bodyPost_ret (v := .tuple #[.agg #[.int .i64 0, .int .i64 0, .int .i64 0], .int .i64 2]) (by simp [results, Tryz.results63, go_sem]) rfl ⟨rfl, HB0.out _⟩
  · rw [hI] at HI
    rw [stat_of i1 i2 hn]
    dsimp only
    have HD := Lib.hid (fun W (hb : Below w.heap.size w W) => (h.below hb).ino I i2)
    have hlD : w.heap.size ≠ D := by have := h.loD.1; omega
    obtain ⟨AB1, cB, hvB⟩ := bl.own_slice (h.ino I i2).b.rB
    have hbs := (hG.1.body I).size
    have hdl := hG.1.dirLen I
    have htl := hG.1.target I
    have HC5 := Lib.hid (fun W hb => (HD.out W hb).b.c0)
    have HC7 := Lib.hid (fun W hb => (HD.out W hb).d.d0)
    have HC8 := Lib.hid (fun W hb => (HD.out W hb).c8)
    have HC0 := Lib.hid (fun W hb => (HD.out W hb).c0)
    have HC1 := Lib.hid (fun W hb => (HD.out W hb).c1)
    rw [hvB] at HC5
    have hI0 : (0 : Int) ≤ (I : Int) := by omega
    have hI1 : (I : Int) < 201 := by omega
    have HSZ := Lib.hid (show ((S.ino I).kind = 1 → (S.ino I).sizeOf = (S.ino I).body.size) ∧ ((S.ino I).kind = 2 → (S.ino I).sizeOf = (S.ino I).dir.length) ∧ ((S.ino I).kind = 3 → (S.ino I).sizeOf = (S.ino I).target.size) ∧ ((S.ino I).kind ≠ 1 → (S.ino I).kind ≠ 2 → (S.ino I).kind ≠ 3 → (S.ino I).sizeOf = 0) from by
      unfold Ino.sizeOf
      refine ⟨fun e => by rw [if_pos e], fun e => by rw [if_neg (by omega), if_pos e], fun e => by rw [if_neg (by omega), if_neg (by omega), if_pos e], fun a b c => by rw [if_neg a, if_neg b, if_neg c]⟩)
    generalize (S.ino I).kind = kk at *
    generalize (S.ino I).links = ll at *
    generalize (S.ino I).sizeOf = sz at *
    generalize (S.ino I).body.size = bs at *
    generalize (S.ino I).dir.length = dl at *
    generalize dn.Ao (pl I).o = Ad at *
    generalize (pl I).c = cd at *
    generalize (S.ino I).target = tt at *
    clear h hG hI hn HD hvB
    obtain ⟨w5, hw5⟩ : ∃ w5, w.alloc (.cells #[.int .i64 0, .int .i64 0, .int .i64 0] 47) = w5 := ⟨_, rfl⟩
    have hb5 : Below w.heap.size w w5 := by rw [← hw5]; exact HB0.out _
    have B5 : Bx3 w5.drew w.heap.size (.int .i64 0) (.int .i64 0) (.int .i64 0) := by rw [← hw5]; exact (Bx3.new w _ _ _ 47).block rfl
    have hf5 : ∀ j, w5.drew.frozen? ⟨w.heap.size, j, none⟩ = false := fun j => by rw [← hw5]; simp
    have HTH := Lib.hid (show w5.drew.there w.heap.size 0 3 from fun j hj => ⟨by rw [Nat.zero_add]; match j, hj with | 0, _ => rw [B5.c0]; rfl | 1, _ => rw [B5.c1]; rfl | 2, _ => rw [B5.c2]; rfl, hf5 _⟩)
    clear B5
    have HI5 := Lib.hid (HI.out (.cells #[.int .i64 0, .int .i64 0, .int .i64 0] 47))
    rw [hw5] at HI5
    have d0 := HC0.out _ hb5
    have d0d := HC0.out _ hb5.drew
    have d1d := HC1.out _ hb5.drew
    have HBE := Lib.hid (fun vs => below_sets (b := w.heap.size) (Nat.le_refl _) vs 0 _ hb5.drew)
    clear HI HC0 HC1 HB0 hf5
    by_cases e1 : kk = 1
    · subst e1
      rw [HSZ.out.1 rfl]
      have d5 := HC5.out _ hb5
      clear HSZ HC5 HC7 HC8
      go_enter Tryz.func63, Tryz.ntmps63
      go_wp2_with fail
      refine HI5.out.mono ?_
      rintro e w3 ⟨rfl, hw3⟩
      subst hw3
      go_wp2_with fail
      go_still_tail 10, (by kernel_rfl)
      change wpList _ _ _ _ _ (World.drew _)
      refine wpList_store_mid (by rfl) 47 (.tmp 4) (.tmp 54) (by rfl) w.heap.size 0 #[.int .i64 1, .int .i64 (bs : Int), .int .i64 ll] (by rfl) (by rfl) HTH.out (by kernel_rfl) (by simp [Value.oneCell']) ?_
      have HBE := Lib.hid (HBE.out [.int .i64 1, .int .i64 (bs : Int), .int .i64 ll])
      obtain ⟨r0, r1, r2⟩ := st3_facts HTH.out (.int .i64 1) (.int .i64 (bs : Int)) (.int .i64 ll)
      change wpList _ _ _ _ _ (w3.drew.setCells w.heap.size 0 [.int .i64 1, .int .i64 (bs : Int), .int .i64 ll])
      generalize hw6 : w3.drew.setCells w.heap.size 0 [.int .i64 1, .int .i64 (bs : Int), .int .i64 ll] = w6 at *
      clear hw6
      go_wp2_with fail
      exact bodyPost_ret (v := .tuple #[.agg #[.int .i64 1, .int .i64 (bs : Int), .int .i64 ll], .int .i64 0]) (by simp [results, Tryz.results63, go_sem, r0, r1, r2]) rfl ⟨rfl, HBE.out⟩
    by_cases e2 : kk = 2
    · subst e2
      rw [HSZ.out.2.1 rfl]
      have d7 := HC7.out _ hb5
      clear HSZ HC5 HC7 HC8 e1
      go_enter Tryz.func63, Tryz.ntmps63
      go_wp2_with fail
      refine HI5.out.mono ?_
      rintro e w3 ⟨rfl, hw3⟩
      subst hw3
      go_wp2_with fail
      go_still_tail 10, (by kernel_rfl)
      change wpList _ _ _ _ _ (World.drew _)
      refine wpList_store_mid (by rfl) 47 (.tmp 4) (.tmp 54) (by rfl) w.heap.size 0 #[.int .i64 2, .int .i64 (dl : Int), .int .i64 ll] (by rfl) (by rfl) HTH.out (by kernel_rfl) (by simp [Value.oneCell']) ?_
      have HBE := Lib.hid (HBE.out [.int .i64 2, .int .i64 (dl : Int), .int .i64 ll])
      obtain ⟨r0, r1, r2⟩ := st3_facts HTH.out (.int .i64 2) (.int .i64 (dl : Int)) (.int .i64 ll)
      change wpList _ _ _ _ _ (w3.drew.setCells w.heap.size 0 [.int .i64 2, .int .i64 (dl : Int), .int .i64 ll])
      generalize hw6 : w3.drew.setCells w.heap.size 0 [.int .i64 2, .int .i64 (dl : Int), .int .i64 ll] = w6 at *
      clear hw6
      go_wp2_with fail
      exact bodyPost_ret (v := .tuple #[.agg #[.int .i64 2, .int .i64 (dl : Int), .int .i64 ll], .int .i64 0]) (by simp [results, Tryz.results63, go_sem, r0, r1, r2]) rfl ⟨rfl, HBE.out⟩
    by_cases e3 : kk = 3
    · subst e3
      rw [HSZ.out.2.2.1 rfl]
      have d8 := HC8.out _ hb5
      clear HSZ HC5 HC7 HC8 e1 e2
      go_enter Tryz.func63, Tryz.ntmps63
      go_wp2_with fail
      refine HI5.out.mono ?_
      rintro e w3 ⟨rfl, hw3⟩
      subst hw3
      go_wp2_with fail
      go_still_tail 10, (by kernel_rfl)
      change wpList _ _ _ _ _ (World.drew _)
      refine wpList_store_mid (by rfl) 47 (.tmp 4) (.tmp 54) (by rfl) w.heap.size 0 #[.int .i64 3, .int .i64 (tt.size : Int), .int .i64 ll] (by rfl) (by rfl) HTH.out (by kernel_rfl) (by simp [Value.oneCell']) ?_
      have HBE := Lib.hid (HBE.out [.int .i64 3, .int .i64 (tt.size : Int), .int .i64 ll])
      obtain ⟨r0, r1, r2⟩ := st3_facts HTH.out (.int .i64 3) (.int .i64 (tt.size : Int)) (.int .i64 ll)
      change wpList _ _ _ _ _ (w3.drew.setCells w.heap.size 0 [.int .i64 3, .int .i64 (tt.size : Int), .int .i64 ll])
      generalize hw6 : w3.drew.setCells w.heap.size 0 [.int .i64 3, .int .i64 (tt.size : Int), .int .i64 ll] = w6 at *
      clear hw6
      go_wp2_with fail
      exact bodyPost_ret (v := .tuple #[.agg #[.int .i64 3, .int .i64 (tt.size : Int), .int .i64 ll], .int .i64 0]) (by simp [results, Tryz.results63, go_sem, r0, r1, r2]) rfl ⟨rfl, HBE.out⟩
    rw [HSZ.out.2.2.2 e1 e2 e3]
    have q1 : (kk == 1) = false := by simpa using e1
    have q2 : (kk == 2) = false := by simpa using e2
    have q3 : (kk == 3) = false := by simpa using e3
    clear HSZ HC5 HC7 HC8 e1 e2 e3
    go_enter Tryz.func63, Tryz.ntmps63
    go_wp2_with fail
    refine HI5.out.mono ?_
    rintro e w3 ⟨rfl, hw3⟩
    subst hw3
    go_wp2_with fail
    go_still_tail 10, (by kernel_rfl)
    change wpList _ _ _ _ _ (World.drew _)
    refine wpList_store_mid (by rfl) 47 (.tmp 4) (.tmp 54) (by rfl) w.heap.size 0 #[.int .i64 kk, .int .i64 ((0 : Nat) : Int), .int .i64 ll] (by rfl) (by rfl) HTH.out (by kernel_rfl) (by simp [Value.oneCell']) ?_
    have HBE := Lib.hid (HBE.out [.int .i64 kk, .int .i64 ((0 : Nat) : Int), .int .i64 ll])
    obtain ⟨r0, r1, r2⟩ := st3_facts HTH.out (.int .i64 kk) (.int .i64 ((0 : Nat) : Int)) (.int .i64 ll)
    change wpList _ _ _ _ _ (w3.drew.setCells w.heap.size 0 [.int .i64 kk, .int .i64 ((0 : Nat) : Int), .int .i64 ll])
    generalize hw6 : w3.drew.setCells w.heap.size 0 [.int .i64 kk, .int .i64 ((0 : Nat) : Int), .int .i64 ll] = w6 at *
    clear hw6
    go_wp2_with fail
    exact bodyPost_ret (v := .tuple #[.agg #[.int .i64 kk, .int .i64 ((0 : Nat) : Int), .int .i64 ll], .int .i64 0]) (by simp [results, Tryz.results63, go_sem, r0, r1, r2]) rfl ⟨rfl, HBE.out⟩
end
end Go.Proofs.YtkbdmjcdhkdanaaGreat.cb
end
section
namespace Go.Proofs.YtkbdmjcdhkdanaaGreat.cb
open Go.RowKit
open Go.Proofs.YtkbdmjcdhkdanaaGreat.br
open Go.Proofs.YtkbdmjcdhkdanaaGreat.dn (En lget lset ldel nerr dotB Sorted getV DuX LaidX)
open Go.Proofs.YtkbdmjcdhkdanaaGreat.bl (AB Only StoC Pq cut cutR wr WR U8 RF)
open Go.Proofs.YtkbdmjcdhkdanaaGreat.bl.rx (RB RS2 Kp)
set_option linter.unusedVariables false
set_option linter.unusedSimpArgs false

theorem NxD.c0 {w w' : World} {D lo RS room : Nat} {tag : Nat → Nat} {S' : BS} (h : NxD w w' D lo RS tag S' room) : w'.cell? ⟨D, 0, none⟩ = some (Pq RS) := by obtain ⟨pl, tg, h1, _⟩ := h; exact h1.c0
section
variable {w w' : World} {D lo RS room : Nat} {pl : Nat → Pd} {tag : Nat → Nat} {S : BS}
set_option maxRecDepth 100000 in
set_option maxHeartbeats 1000000 in
theorem q_read (h : DB w D lo RS pl tag S room) (hG : br.Good S room) (i off n : Int) : Calls Tryz.prog 67 #[Pq D, .int .i64 i, .int .i64 off, .int .i64 n] w (fun e w' => ∃ v, e = .returned (.tuple #[v, .int .i64 (readI S i off n).1]) ∧ w'.ownsRow w.heap.size 5 1 v (readI S i off n).2 (bl.rowF (readI S i off n).2 (fun j => (S.at i).body.dat (off.toNat + j))) ∧ Below w.heap.size w w') := by
  have HK := Lib.hid (q_file h i)
  unfold RetQ at HK
  by_cases h1 : S.fileE i = 0
  case neg =>
    rw [show readI S i off n = (S.fileE i, 0) by unfold readI; rw [if_pos h1]]
    have HO := Lib.hid (World.ownsRow_nil w w.heap.size 5 1)
    dsimp only
    rw [show bl.rowF 0 (fun j => (S.at i).body.dat (off.toNat + j)) = [] from rfl]
    generalize S.fileE i = x at *
    have hq : (x != 0) = true := by simpa using h1
    clear h hG h1
    go_enter Tryz.func67, Tryz.ntmps67
    go_wp2_with fail
    refine HK.out.mono ?_
    rintro e w3 ⟨rfl, rfl⟩
    go_wp2_with fail
    go_ret2
    exact ⟨_, rfl, HO.out, Below.refl _ _⟩
  rw [h1] at HK
  obtain ⟨I, rfl, i1, i2, hk⟩ := fileE_ok h1
  have hd := h.drew
  have HC := Lib.hid (bl.rx.rread_any (RS := RS) (hd.ino I i2).b (hG.1.body I).size off n)
  have c0 := hd.c0
  have hDl : D < w.heap.size := h.loD.1
  rw [show readI S (I : Int) off n = bl.readR (S.ino I).body off n by unfold readI; rw [if_neg (by omega), at_nat], at_nat]
  unfold bl.RReadE at HC
  have hI0 : (0 : Int) ≤ (I : Int) := by omega
  have hI1 : (I : Int) < 201 := by omega
  generalize (bl.readR (S.ino I).body off n).1 = r1 at *
  generalize (bl.readR (S.ino I).body off n).2 = r2 at *
  generalize bl.rowF r2 (fun j => (S.ino I).body.dat (off.toNat + j)) = L at *
  clear h hd hG h1 hk
  go_enter Tryz.func67, Tryz.ntmps67
  go_wp2_with fail
  refine HK.out.mono ?_
  rintro e w3 ⟨rfl, hw3⟩
  subst hw3
  go_wp2_with fail
  go_region_held3 (fun w' => w'.cell? ⟨D, 0, none⟩ = some (Pq RS))
    (first | exact c0 | exact c4 | assumption | go_keep)
    (first
    | (go_at_call 110; ((with_reducible refine HC.out.mono ?_); rintro e w4 ⟨v4, rfl, hown, hb4⟩; have c4 := (hb4.cell (p := ⟨D, 0, none⟩) hDl).trans c0)))
  all_goals
    go_wp2_with fail
    go_ret2
    exact ⟨_, rfl, hown, ((Below.refl _ _).drew : Below w3.heap.size w3 w3.drew).trans hb4⟩
set_option maxRecDepth 100000 in
set_option maxHeartbeats 1000000 in
theorem q_write (h : DB w D lo RS pl tag S room) (hG : br.Good S room) (hr : room ≤ 65536) (i off : Int) (A : Option Addr) (len dc : Nat) (f : Nat → UInt8) (hA : ∀ j, j < len → ∃ b o, A = some ⟨b, o, none⟩ ∧ tag b = 0 ∧ b < w.heap.size ∧ w.cell? ⟨b, o + j, none⟩ = some (U8 (f j))) (hlc : len ≤ dc) (hdc : dc ≤ maxLen) :
    Calls Tryz.prog 45 #[Pq D, .int .i64 i, .int .i64 off, .slice A len dc] w (fun e w' => (S.fileE i ≠ 0 ∧ e = .returned (.tuple #[.int .i64 0, .int .i64 (S.fileE i)]) ∧ w' = w) ∨ (S.fileE i = 0 ∧ ∃ (p : Nat) (err : Int), bl.WR (S.at i).body S.used room off len p err ∧ e = .returned (.tuple #[.int .i64 (p : Int), .int .i64 err]) ∧ NxD w w' D lo RS tag (S.wrote i off p f) room)) := by
  have HK := Lib.hid (q_file h i)
  unfold RetQ at HK
  by_cases h1 : S.fileE i = 0
  case neg =>
    obtain ⟨x, hx⟩ : ∃ x, S.fileE i = x := ⟨_, rfl⟩
    have HX := Lib.hid hx
    rw [hx] at HK h1
    have hq : (x != 0) = true := by simpa using h1
    have HN := Lib.hid h1
    clear h hG h1 hA hx hlc hdc
    go_enter Tryz.func45, Tryz.ntmps45
    go_wp2_with fail
    refine HK.out.mono ?_
    rintro e w3 ⟨rfl, rfl⟩
    go_wp2_with fail
    go_ret2
    exact .inl ⟨by rw [HX.out]; exact HN.out, by rw [HX.out]; rfl, rfl⟩
  have H1 := Lib.hid h1
  rw [h1] at HK
  obtain ⟨I, rfl, i1, i2, hk⟩ := fileE_ok h1
  have hd := h.drew
  obtain ⟨g1, g2, g3⟩ := Good_body2 hG hr I
  have hRF : ¬ RF D (pl I).vB (pl I).vT RS := by
    rintro (e | e | e)
    · exact h.loD.2.2 e
    · have := h.tI I i2 RS (.inl e); rw [h.tS] at this; omega
    · have := h.tI I i2 RS (.inr (.inl e)); rw [h.tS] at this; omega
  have hB : bl.BytesIn w.drew (fun x => RF D (pl I).vB (pl I).vT x ∨ x = RS) A len f := fun j hj => by
    obtain ⟨b, o, e, ht, hlt, hc⟩ := hA j hj
    refine ⟨b, o, e, ?_, hlt, hc⟩
    rintro ((e | e | e) | e)
    · rw [e, h.tD] at ht; cases ht
    · have := h.tI I i2 b (.inl e); omega
    · have := h.tI I i2 b (.inr (.inl e)); omega
    · rw [e, h.tS] at ht; cases ht
  have HC := Lib.hid (bl.rx.rwrite_any (off := off) (hd.ino I i2).b g1 hd.sto hRF g2 hG.1.room hr hB hlc hdc hd.loD.2.1)
  have HN := Lib.hid (fun W p vB vT T (hr : RS2 w.drew W lo D (1 + I * 9 + 5) RS room (S.used + (wr (S.ino I).body off p f).n - (S.ino I).body.n) (RF D (pl I).vB (pl I).vT) vB vT (wr (S.ino I).body off p f) T) => show NxD w W D lo RS tag (S.wrote (I : Int) off p f) room from by
    have := NxD.trans (Stp.below ((Below.refl _ w).drew)) (hd.body i2 hk hr)
    unfold BS.wrote
    rw [at_nat, Int.toNat_natCast]
    exact this)
  have c0 := hd.c0
  rw [at_nat]
  unfold bl.rx.RWriteE at HC
  have hI0 : (0 : Int) ≤ (I : Int) := by omega
  have hI1 : (I : Int) < 201 := by omega
  clear h hd hG h1 hk g1 g2 g3 hRF hB hA hlc hdc
  go_enter Tryz.func45, Tryz.ntmps45
  go_wp2_with fail
  refine HK.out.mono ?_
  rintro e w3 ⟨rfl, hw3⟩
  subst hw3
  go_wp2_with fail
  go_region_held3 (fun w' => w'.cell? ⟨D, 0, none⟩ = some (Pq RS))
    (first | exact c0 | exact c4 | assumption | go_keep)
    (first
    | (go_at_call 93; ((with_reducible refine HC.out.mono ?_); rintro e w4 ⟨p4, err4, vB, vT, T, rfl, hw4, hr4⟩; have hn4 := HN.out _ _ _ _ _ hr4; have c4 := hn4.c0)))
  all_goals
    go_wp2_with fail
    go_ret2
    exact .inr ⟨H1.out, _, _, hw4, rfl, hn4⟩
end
end Go.Proofs.YtkbdmjcdhkdanaaGreat.cb
end
section
namespace Go.Proofs.YtkbdmjcdhkdanaaGreat.cb
open Go.RowKit Go.Shelf
open Go.Proofs.YtkbdmjcdhkdanaaGreat.br
open Go.Proofs.YtkbdmjcdhkdanaaGreat.dn (En Ev beq_names Ao lget lset ldel nerr dotB Sorted getV DuX LaidX RetB ERow encL encL_length encL_one below_drewN row_new below_grown_far below_alloc info37)
open Go.Proofs.YtkbdmjcdhkdanaaGreat.bl (AB Only StoC Pq cut cutR wr WR U8 RF)
open Go.Proofs.YtkbdmjcdhkdanaaGreat.bl.rx (RB RS2 Kp)
set_option linter.unusedVariables false
set_option linter.unusedSimpArgs false


theorem en_eq (x y : En) : (x.1.toList == y.1.toList && x.2 == y.2) = decide (x = y) := by
  rw [beq_names]
  by_cases h : x = y
  · subst h; simp
  · rw [decide_eq_false h]
    by_cases h1 : x.1 = y.1
    · have h2 : x.2 ≠ y.2 := fun e => h (Prod.ext h1 e)
      simp [h2]
    · simp [h1]
theorem run_equal59 (x y : En) (w : World) : (Op.equalIn 10000 91 (Ev x) (Ev y)).run Tryz.prog w = .ok (decide (x = y)) w := by
  have hS : Tryz.prog.underlying 91 = some (.struct (Tryz.prog.fieldsOf 91)) := by kernel_rfl
  have hp : Tryz.prog.stoodInHeld 91 = false := by kernel_rfl
  have u3 := Tryz.underlying3
  have u9 := Tryz.underlying9
  have a3 := Tryz.isAgg3
  have z3 := Tryz.sizeOf3
  have a9 := Tryz.isAgg9
  have z9 := Tryz.sizeOf9
  rw [show (10000 : Nat) = 9999 + 1 from rfl, run_equalIn_agg w 9999 91 _ _ hS hp, ← en_eq]
  simp only [Program.fieldsOf, Tryz.underlying91]
  go_simp
  by_cases h1 : x.1.toList = y.1.toList <;> by_cases h2 : x.2 = y.2 <;> simp [h1, h2]
theorem run_neq59 (x y : En) (w : World) : (binOp .neq 91 (Ev x) (Ev y)).run Tryz.prog w = .ok (.bool (!decide (x = y))) w := by
  rw [run_neq_struct, run_equal59]; rfl
theorem run_eql59 (x y : En) (w : World) : (binOp .eql 91 (Ev x) (Ev y)).run Tryz.prog w = .ok (.bool (decide (x = y))) w := by
  rw [run_eql_struct, run_equal59]; rfl
theorem guard59 (op : BinOp) (a b : Operand) (xs ys : Array Value) (w : World) : (eqGuard op 91 a b (.agg xs) (.agg ys)).run Tryz.prog w = .ok () w := run_eqGuard_agg w op 91 a b xs ys (by kernel_rfl)

/-- A slice of entries that reads as a list, below block B. -/
def ReadsQ (w : World) (B : Nat) (A : Option Addr) (L : List En) : Prop := ∀ i x, L[i]? = some x → ∃ G, A = some ⟨G, 0, none⟩ ∧ G < B ∧ w.cell? ⟨G, i * 2, none⟩ = some (.string x.1) ∧ w.cell? ⟨G, i * 2 + 1, none⟩ = some (.int .i64 x.2)
theorem ReadsQ.below {w w' : World} {B : Nat} {A : Option Addr} {L : List En} (h : ReadsQ w B A L) (hb : Below B w w') : ReadsQ w' B A L := fun i x hx => by
  obtain ⟨G, e, hG, h0, h1⟩ := h i x hx
  exact ⟨G, e, hG, (hb.cell (p := ⟨G, i * 2, none⟩) hG).trans h0, (hb.cell (p := ⟨G, i * 2 + 1, none⟩) hG).trans h1⟩
theorem ReadsQ.of_sl {w : World} {lo c : Nat} {o : Option Nat} {L : List En} (h : dn.Sl w lo o c L) : ReadsQ w w.heap.size (Ao o) L := fun i x hx => by
  cases o with
  | none => obtain ⟨rfl, -⟩ := h; simp at hx
  | some G => exact ⟨G, rfl, h.2.lt, (h.2.at_ hx).1, (h.2.at_ hx).2⟩

theorem sl_of_owns {w : World} {lo n : Nat} {v : Value} {L : List En} (h : w.ownsRow lo 91 2 v n (encL L)) (hn : n = L.length) : ∃ o c, v = .slice (Ao o) n c ∧ dn.Sl w lo o c L := by
  rcases h.2 with ⟨rfl, h0⟩ | ⟨g, cap, cur, rfl, _⟩
  · subst h0
    exact ⟨none, 0, rfl, List.eq_nil_of_length_eq_zero hn.symm, rfl⟩
  · exact ⟨some g, cap, rfl, (ERow.of_owns h hn).2, (ERow.of_owns h hn).1⟩
theorem all_src {w : World} {D x0 lo c : Nat} {o : Option Nat} {L : List En} (h : DuX w D x0 lo o c L) (hN : L.length ≤ 900000) :
    ∃ v' w1, (Builtin.append_ #[87, 87] 87 #[.slice (some ⟨w.heap.size, 0, none⟩) 0 0, .slice (Ao o) L.length c]).run Tryz.prog (w.alloc (.cells #[] 91)) = .ok v' w1 ∧ Below w.heap.size w w1 ∧ w1.ownsRow w.heap.size 91 2 v' L.length (encL L) := by
  obtain ⟨i0, hi, hz0, hz1, hz2⟩ := info_parts info37
  have hown := (row_new w).owns (Nat.le_refl _)
  have hb := below_alloc w (.cells #[] 91)
  cases o with
  | none =>
    obtain ⟨rfl, rfl⟩ := h.row
    refine ⟨.slice (some ⟨w.heap.size, 0, none⟩) 0 0, w.alloc (.cells #[] 91), ?_, hb, hown⟩
    simp [Builtin.append_, run_underlying Tryz.underlying87, sizeOf, typeInfo, hi, Builtin.lenOf, Builtin.firstCells, storeCells]
  | some G =>
    have hr := h.row.2.2
    have hr' := hr.of_block (hb.block G hr.lt)
    obtain ⟨v', w', h1, h2, h3, _⟩ := run_append_own (P := Tryz.prog) (w := w.alloc (.cells #[] 91)) w.heap.size 87 87 91 i0 _ 2 24 Tryz.underlying87 hi hz0 hz1 hz2 rfl (by decide) _ 0 (encL []) hown ⟨G, 0, none⟩ L.length c (encL L) (encL_length L) (fun j u hu => by
      have := hr'.cells hu
      by_cases hj : j = 0
      · subst hj; simpa [Addr.add] using this
      · simpa [Addr.add, hj] using this) (encL_one L) (by unfold maxLen; omega) (by omega) hb.size
    refine ⟨v', w', h1, below_grown_far hb h3 (Nat.le_refl _), ?_⟩
    simpa [encL] using h2
def AllQ (w : World) (r : List En × Int) (e : Ending) (w' : World) : Prop := ∃ o c, e = .returned (.tuple #[.slice (Ao o) r.1.length c, .int .i64 r.2]) ∧ dn.Sl w' w.heap.size o c r.1 ∧ Below w.heap.size w w'
section
variable {w w' : World} {D lo RS room : Nat} {pl : Nat → Pd} {tag : Nat → Nat} {S : BS}
set_option maxRecDepth 100000 in
set_option maxHeartbeats 1000000 in
theorem q_all (h : DB w D lo RS pl tag S room) (hG : br.Good S room) (i : Int) : Calls Tryz.prog 60 #[Pq D, .int .i64 i] w (AllQ w (S.all i)) := by
  have HI := Lib.hid (q_dir h i false)
  unfold RetQ at HI
  by_cases h1 : S.dirE i false = 0
  · obtain ⟨I, rfl, d1, d2, hD, _⟩ := dirE_ok h1
    rw [show S.all (I : Int) = ((S.ino I).dir, 0) by unfold BS.all; rw [if_neg (by omega), at_nat]]
    rw [h1] at HI
    have hdx := (h.ino I d2).d
    have hN := hG.1.dirLen I
    obtain ⟨v1, w1, hrun, hb1, hown⟩ := all_src hdx (by omega)
    obtain ⟨o1, c1, rfl, hsl⟩ := sl_of_owns hown rfl
    have d0 := hdx.d0
    have d0' := (hdx.below (below_alloc w (.cells #[] 91))).d0
    have HRUN := Lib.hid hrun
    have HS := Lib.hid hsl
    have HB := Lib.hid hb1
    generalize (S.ino I).dir = L at *
    generalize hn : L.length = n at *
    have HN := Lib.hid hn
    clear h h1 hG hN hown hdx hrun hsl hb1 hn
    have hI0 : (0 : Int) ≤ (I : Int) := by omega
    have hI1 : (I : Int) < 201 := by omega
    go_enter Tryz.func60, Tryz.ntmps60
    go_wp2_with fail
    refine HI.out.mono ?_
    rintro e w2 ⟨rfl, rfl⟩
    go_wp2_with (at_builtin; refine Lib.wpList_append_run _ rfl (.tmp 13) (.tmp 21) 87 87 rfl _ _ rfl rfl _ _ HRUN.out ?_)
    go_wp2_with fail
    go_ret2
    exact ⟨o1, c1, by rw [show (L, (0 : Int)).1.length = n from HN.out]; rfl, HS.out, HB.out⟩
  · have hv : S.all i = ([], S.dirE i false) := by unfold BS.all; rw [if_pos h1]
    rw [hv]
    generalize S.dirE i false = x at *
    have hr : (x != 0) = true := by simpa using h1
    clear h h1 hG hv
    go_enter Tryz.func60, Tryz.ntmps60
    go_wp2_with fail
    refine HI.out.mono ?_
    rintro e w2 ⟨rfl, rfl⟩
    go_wp2_with fail
    go_ret2
    exact ⟨none, 0, rfl, ⟨rfl, rfl⟩, Below.refl _ _⟩
end
end Go.Proofs.YtkbdmjcdhkdanaaGreat.cb
end
section
namespace Go.Proofs.YtkbdmjcdhkdanaaGreat.cb
open Go.RowKit
open Go.Proofs.YtkbdmjcdhkdanaaGreat.br
open Go.Proofs.YtkbdmjcdhkdanaaGreat.bl (AB Only StoC Pq U8 WR IsStop)
set_option linter.unusedVariables false
set_option linter.unusedSimpArgs false

theorem DB.keepSame {w w' : World} {D lo RS room : Nat} {pl : Nat → Pd} {tag : Nat → Nat} {S : BS} (h : DB w D lo RS pl tag S room) (ho : ∀ b, tag b ≠ 0 → w'.heap[b]? = w.heap[b]?) : DB w' D lo RS pl tag S room := by
  have hD := ho D (by rw [h.tD]; decide)
  have hc : ∀ j, w'.cell? ⟨D, j, none⟩ = w.cell? ⟨D, j, none⟩ := fun j => World.cell?_of_block (a := ⟨D, j, none⟩) hD
  have hf : ∀ j, w'.frozen? ⟨D, j, none⟩ = w.frozen? ⟨D, j, none⟩ := fun j => World.frozen?_of_block (a := ⟨D, j, none⟩) hD
  refine ⟨(hc 0).trans h.c0, fun j => (hf j).trans (h.cf j), StoC.keep h.sto (ho RS (by rw [h.tS]; decide)), fun k hk => (h.ino k hk).keep (fun j _ => hc _) hf (fun b hb => ho b (by rw [h.tI k hk b hb]; omega)), h.tD, h.tS, h.tI, h.lo, fun b hb => ?_⟩
  rcases Nat.eq_zero_or_pos (tag b) with h0 | h0
  · exact h0
  · exfalso
    have h1 : tag b ≠ 0 := by omega
    have h2 := (h.lt h1).1
    have h3 := ho b h1
    rw [Array.getElem?_eq_none hb, Array.getElem?_eq_getElem h2] at h3
    cases h3
theorem BrX.xlt {w0 w : World} {P room T : Nat} {X : Nat → Prop} {S : BS} (h : BrX w0 w P X S room T) {b : Nat} (hb : X b) : b < w.heap.size := by
  obtain ⟨_, _, _, _, _, _, _, _, _, _, _, _, h7⟩ := h
  exact (h7 b hb).1
theorem BrX.hold {w0 w : World} {P room T : Nat} {X : Nat → Prop} {S : BS} (h : BrX w0 w P X S room T) (hT : T ≤ 1000) : ∀ k, (S.ino k).holds ≤ 900000 := fun k => by
  obtain ⟨_, _, _, _, _, _, _, _, _, _, h5, _⟩ := h
  have := h5 k
  omega
theorem BrX.rle {w0 w : World} {P room T : Nat} {X : Nat → Prop} {S : BS} (h : BrX w0 w P X S room T) : room ≤ 65536 := by
  obtain ⟨_, _, _, _, _, _, _, _, _, h4, _⟩ := h
  exact h4
theorem BrX.only_new {w0 w w' : World} {P room T : Nat} {X F : Nat → Prop} {S : BS} (h : BrX w0 w P X S room T) (ho : Only F w w') (hF : ∀ b, F b → X b) (hl : ∀ b, F b → w0.heap.size ≤ b) : BrX w0 w' P (fun b => X b ∨ (w.heap.size ≤ b ∧ b < w'.heap.size)) S room T := by
  have hk := h.only ho hF hl
  obtain ⟨st, qb, qo, pl, tag, Tq, h1, h2, h3, h4, h5, h6, h7⟩ := h
  refine ⟨st, qb, qo, pl, tag, Tq, h1.only ho (fun b hb => (h7 b (hF b hb)).2), h2, h3, h4, h5, hk.bel, fun b hb => ?_⟩
  rcases hb with hb | ⟨h8, h9⟩
  · exact ⟨Nat.lt_of_lt_of_le (h7 b hb).1 ho.size, (h7 b hb).2⟩
  · exact ⟨h9, h1.hi b h8⟩
def Two (w0 w : World) (P D RS : Nat) (X : Nat → Prop) (S1 S2 : BS) (room T : Nat) : Prop :=
  ∃ pl tg, BrX w0 w P (fun b => tg b ≠ 0 ∨ X b) S1 room T ∧ DB w D w0.heap.size RS pl tg S2 room ∧ ∀ b, X b → tg b = 0
section
variable {w0 w w' : World} {P D RS room T : Nat} {X : Nat → Prop} {S1 S2 S1' S2' : BS}
theorem Two.below (h : Two w0 w P D RS X S1 S2 room T) (hb : Below w.heap.size w w') : Two w0 w' P D RS X S1 S2 room T := by
  obtain ⟨pl, tg, h1, h2, h3⟩ := h
  exact ⟨pl, tg, h1.below hb, h2.below hb, h3⟩
theorem Two.drew (h : Two w0 w P D RS X S1 S2 room T) : Two w0 w.drew P D RS X S1 S2 room T := h.below (Below.refl _ _).drew
theorem Two.box (h : Two w0 w P D RS X S1 S2 room T) (hb : Below w.heap.size w w') {Y : Nat → Prop} (hY : ∀ b, Y b → X b ∨ (w.heap.size ≤ b ∧ b < w'.heap.size)) : Two w0 w' P D RS Y S1 S2 room T := by
  obtain ⟨pl, tg, h1, h2, h3⟩ := h
  refine ⟨pl, tg, h1.beside hb fun b hb => ?_, h2.below hb, fun b hb => ?_⟩
  · rcases hb with h4 | h4
    · exact .inl (.inl h4)
    · rcases hY b h4 with h5 | h5
      · exact .inl (.inr h5)
      · exact .inr h5
  · rcases hY b hb with h5 | h5
    · exact h3 b h5
    · exact h2.hi b h5.1
theorem Two.start {w2 : World} {pl : Nat → Pd} {tg : Nat → Nat} (h1 : BrX w0 w P X S1 room T) (h2 : DB w2 D w0.heap.size RS pl tg S2 room) (hb : Below w.heap.size w w2) (ht : ∀ b, tg b ≠ 0 → w.heap.size ≤ b) : Two w0 w2 P D RS No S1 S2 room T :=
  ⟨pl, tg, h1.beside hb fun b hb => hb.elim (fun e => .inr ⟨ht b e, (h2.lt e).1⟩) (fun e => e.elim), h2, fun _ h => h.elim⟩
theorem Two.sub (h : Two w0 w P D RS X S1 S2 room T) {Y : Nat → Prop} (hY : ∀ b, Y b → X b) : Two w0 w P D RS Y S1 S2 room T := h.box (Below.refl _ _) fun b hb => .inl (hY b hb)
theorem Two.forget (h : Two w0 w P D RS X S1 S2 room T) : Two w0 w P D RS No S1 S2 room T := h.box (Below.refl _ _) fun _ h => h.elim
theorem Two.bel (h : Two w0 w P D RS X S1 S2 room T) : Below w0.heap.size w0 w := by obtain ⟨pl, tg, h1, h2, h3⟩ := h; exact h1.bel
theorem Two.good (h : Two w0 w P D RS X S1 S2 room T) : br.Good S1 room := by obtain ⟨pl, tg, h1, h2, h3⟩ := h; exact h1.good
theorem Two.rle (h : Two w0 w P D RS X S1 S2 room T) : room ≤ 65536 := by obtain ⟨pl, tg, h1, h2, h3⟩ := h; exact h1.rle
theorem Two.hold (h : Two w0 w P D RS X S1 S2 room T) (hT : T ≤ 1000) : ∀ k, (S1.ino k).holds ≤ 900000 := by obtain ⟨pl, tg, h1, h2, h3⟩ := h; exact h1.hold hT
theorem Two.xlt (h : Two w0 w P D RS X S1 S2 room T) {b : Nat} (hb : X b) : b < w.heap.size := by obtain ⟨pl, tg, h1, h2, h3⟩ := h; exact h1.xlt (.inr hb)
theorem Two.up (h : Two w0 w P D RS X S1 S2 room T) {T' : Nat} (hT : T ≤ T') : Two w0 w P D RS X S1 S2 room T' := by obtain ⟨pl, tg, h1, h2, h3⟩ := h; exact ⟨pl, tg, h1.up hT, h2, h3⟩
theorem two_code {f : Nat} {args : Array Value} {v : Value} (h : Two w0 w P D RS X S1 S2 room T) (hc : ∀ Y, BrX w0 w P Y S1 room T → Calls Tryz.prog f args w (fun e w' => e = .returned v ∧ BrX w0 w' P Y S1' room (T + 1) ∧ Same Y w w')) :
    Calls Tryz.prog f args w (fun e w' => e = .returned v ∧ Two w0 w' P D RS X S1' S2 room (T + 1) ∧ Same X w w') := by
  obtain ⟨pl, tg, h1, h2, h3⟩ := h
  exact (hc _ h1).mono fun e w' ⟨he, k1, k2⟩ => ⟨he, ⟨pl, tg, k1, h2.keepSame (fun b hb => k2 b (.inl hb)), h3⟩, fun b hb => k2 b (.inr hb)⟩
theorem two_next {pl pl' : Nat → Pd} {tg tg' : Nat → Nat} (h1 : BrX w0 w P (fun b => tg b ≠ 0 ∨ X b) S1 room T) (h2 : DB w D w0.heap.size RS pl tg S2 room) (h3 : ∀ b, X b → tg b = 0) (k1 : DB w' D w0.heap.size RS pl' tg' S2' room) (k2 : Stp w w' tg tg') :
    Two w0 w' P D RS X S1 S2' room T ∧ Same X w w' := by
  refine ⟨⟨pl', tg', (h1.only_new k2.o (fun b hb => .inl hb) (fun b hb => (h2.lt hb).2)).sub fun b hb => ?_, k1, fun b hb => (k2.tg b (h1.xlt (.inr hb))).trans (h3 b hb)⟩, fun b hb => k2.o.block b (h1.xlt (.inr hb)) (fun e => e (h3 b hb))⟩
  rcases hb with h4 | h4
  · rcases Nat.lt_or_ge b w.heap.size with h5 | h5
    · exact .inl (.inl (by rw [← k2.tg b h5]; exact h4))
    · exact .inr ⟨h5, (k1.lt h4).1⟩
  · exact .inl (.inr h4)
theorem two_doc {f : Nat} {args : Array Value} {v : Value} (h : Two w0 w P D RS X S1 S2 room T) (hc : ∀ pl tg, DB w D w0.heap.size RS pl tg S2 room → Calls Tryz.prog f args w (RetD w D w0.heap.size RS tg v S2' room)) :
    Calls Tryz.prog f args w (fun e w' => e = .returned v ∧ Two w0 w' P D RS X S1 S2' room T ∧ Same X w w') := by
  obtain ⟨pl, tg, h1, h2, h3⟩ := h
  exact (hc _ _ h2).mono fun e w' ⟨he, pl', tg', k1, k2⟩ => ⟨he, two_next h1 h2 h3 k1 k2⟩
theorem WR.eq {b : AB} {used room len p q : Nat} {off e1 e2 : Int} (h : WR b used room off len p e1) (k : WR b used room off len q e2) : p = q ∧ e1 = e2 := by
  rcases h with ⟨a1, a2, a3⟩ | ⟨a1, a2, a3, a4⟩ | ⟨a1, a2, a3, a4⟩ | ⟨a1, a2, a3, a4, a5⟩ <;> rcases k with ⟨b1, b2, b3⟩ | ⟨b1, b2, b3, b4⟩ | ⟨b1, b2, b3, b4⟩ | ⟨b1, b2, b3, b4, b5⟩ <;> first | omega | skip
  have := IsStop.eq a4 b4
  subst this
  exact ⟨rfl, a5.trans b5.symm⟩
theorem two_wcode (h : Two w0 w P D RS X S1 S2 room T) (i off : Int) (A : Option Addr) (len dc : Nat) (f : Nat → UInt8) (hA : ∀ j, j < len → ∃ b o, A = some ⟨b, o, none⟩ ∧ X b ∧ w.cell? ⟨b, o + j, none⟩ = some (U8 (f j))) (hlc : len ≤ dc) (hdc : dc ≤ maxLen) :
    Calls Tryz.prog 44 #[Pq P, .int .i64 i, .int .i64 off, .slice A len dc] w (fun e w' => ∃ p err S', WrI S1 room i off len f p err S' ∧ e = .returned (.tuple #[.int .i64 (p : Int), .int .i64 err]) ∧ Two w0 w' P D RS X S' S2 room (T + 1) ∧ Same X w w') := by
  obtain ⟨pl, tg, h1, h2, h3⟩ := h
  exact (x_write h1 i off A len dc f (fun j hj => by
    obtain ⟨b, o, e, hx, hc⟩ := hA j hj
    exact ⟨b, o, e, .inr hx, hc⟩) hlc hdc).mono fun e w' ⟨p, err, S', hw, he, k1, k2⟩ => ⟨p, err, S', hw, he, ⟨pl, tg, k1, h2.keepSame (fun b hb => k2 b (.inl hb)), h3⟩, fun b hb => k2 b (.inr hb)⟩
theorem two_wdoc (h : Two w0 w P D RS X S1 S2 room T) (hG : br.Good S2 room) (i off : Int) (A : Option Addr) (len dc : Nat) (f : Nat → UInt8) (hA : ∀ j, j < len → ∃ b o, A = some ⟨b, o, none⟩ ∧ X b ∧ w.cell? ⟨b, o + j, none⟩ = some (U8 (f j))) (hlc : len ≤ dc) (hdc : dc ≤ maxLen) {p : Nat} {err : Int} {S' : BS} (hw : WrI S2 room i off len f p err S') :
    Calls Tryz.prog 45 #[Pq D, .int .i64 i, .int .i64 off, .slice A len dc] w (fun e w' => e = .returned (.tuple #[.int .i64 (p : Int), .int .i64 err]) ∧ Two w0 w' P D RS X S1 S' room T ∧ Same X w w') := by
  have hr := h.rle
  obtain ⟨pl, tg, h1, h2, h3⟩ := h
  refine (q_write h2 hG hr i off A len dc f (fun j hj => by
    obtain ⟨b, o, e, hx, hc⟩ := hA j hj
    exact ⟨b, o, e, h3 b hx, h1.xlt (.inr hx), hc⟩) hlc hdc).mono ?_
  rintro e w' (⟨z1, rfl, rfl⟩ | ⟨z1, p', err', hw', rfl, pl', tg', k1, k2⟩)
  · rcases hw with ⟨y1, rfl, rfl, rfl⟩ | ⟨y1, _⟩
    · exact ⟨rfl, ⟨pl, tg, h1, h2, h3⟩, fun _ _ => rfl⟩
    · exact absurd y1 z1
  · rcases hw with ⟨y1, _⟩ | ⟨y1, y2, _, _, rfl⟩
    · exact absurd z1 y1
    · obtain ⟨rfl, rfl⟩ := WR.eq hw' y2
      exact ⟨rfl, two_next h1 h2 h3 k1 k2⟩
end
end Go.Proofs.YtkbdmjcdhkdanaaGreat.cb
end
