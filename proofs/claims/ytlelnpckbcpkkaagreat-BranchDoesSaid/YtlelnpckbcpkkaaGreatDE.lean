/- The document's own branch: Read, Write. -/
import Derived.Test.YtlelnpckbcpkkaaGreatDA
import Derived.Deep.RegionHeld3
namespace Go.Proofs.YtlelnpckbcpkkaaGreat.cb
open Go.RowKit
open Go.Proofs.YtlelnpckbcpkkaaGreat.br
open Go.Proofs.YtlelnpckbcpkkaaGreat.dn (En lget lset ldel nerr dotB Sorted getV DuX LaidX)
open Go.Proofs.YtlelnpckbcpkkaaGreat.bl (AB Only StoC Pq cut cutR wr WR U8 RF)
open Go.Proofs.YtlelnpckbcpkkaaGreat.bl.rx (RB RS2 Kp)
set_option linter.unusedVariables false
set_option linter.unusedSimpArgs false

theorem NxD.c0 {w w' : World} {D lo RS room : Nat} {tag : Nat → Nat} {S' : BS} (h : NxD w w' D lo RS tag S' room) : w'.cell? ⟨D, 0, none⟩ = some (Pq RS) := by obtain ⟨pl, tg, h1, _⟩ := h; exact h1.c0
section
variable {w w' : World} {D lo RS room : Nat} {pl : Nat → Pd} {tag : Nat → Nat} {S : BS}
set_option maxRecDepth 100000 in
set_option maxHeartbeats 1000000 in
theorem q_read (h : DB w D lo RS pl tag S room) (hG : br.Good S room) (i off n : Int) : Calls Tryz.prog 56 #[Pq D, .int .i64 i, .int .i64 off, .int .i64 n] w (fun e w' => ∃ v, e = .returned (.tuple #[v, .int .i64 (readI S i off n).1]) ∧ w'.ownsRow w.heap.size 5 1 v (readI S i off n).2 (bl.rowF (readI S i off n).2 (fun j => (S.at i).body.dat (off.toNat + j))) ∧ Below w.heap.size w w') := by
  have HK := Lib.hid (q_file h i)
  unfold RetQ at HK
  by_cases h1 : S.fileE i = 0
  case neg =>
    rw [show readI S i off n = (S.fileE i, 0) by unfold readI; rw [if_pos h1]]
    have HO := Lib.hid (World.ownsRow_nil w w.heap.size 5 1)
    dsimp only
    rw [show bl.rowF 0 (fun j => (S.at i).body.dat (off.toNat + j)) = [] from rfl]
    generalize S.fileE i = x at *
    have hq : (x != 0) = true := by simpa using h1
    clear h hG h1
    go_enter Tryz.func56, Tryz.ntmps56
    go_wp2_with fail
    refine HK.out.mono ?_
    rintro e w3 ⟨rfl, rfl⟩
    go_wp2_with fail
    go_ret2
    exact ⟨_, rfl, HO.out, Below.refl _ _⟩
  rw [h1] at HK
  obtain ⟨I, rfl, i1, i2, hk⟩ := fileE_ok h1
  have hd := h.drew
  have HC := Lib.hid (bl.rx.rread_any (RS := RS) (hd.ino I i2).b (hG.1.body I).size off n)
  have c0 := hd.c0
  have hDl : D < w.heap.size := h.loD.1
  rw [show readI S (I : Int) off n = bl.readR (S.ino I).body off n by unfold readI; rw [if_neg (by omega), at_nat], at_nat]
  unfold bl.RReadE at HC
  have hI0 : (0 : Int) ≤ (I : Int) := by omega
  have hI1 : (I : Int) < 201 := by omega
  generalize (bl.readR (S.ino I).body off n).1 = r1 at *
  generalize (bl.readR (S.ino I).body off n).2 = r2 at *
  generalize bl.rowF r2 (fun j => (S.ino I).body.dat (off.toNat + j)) = L at *
  clear h hd hG h1 hk
  go_enter Tryz.func56, Tryz.ntmps56
  go_wp2_with fail
  refine HK.out.mono ?_
  rintro e w3 ⟨rfl, hw3⟩
  subst hw3
  go_wp2_with fail
  go_region_held3 (fun w' => w'.cell? ⟨D, 0, none⟩ = some (Pq RS))
    (first | exact c0 | exact c4 | assumption | go_keep)
    (first
    | (go_at_call 104; ((with_reducible refine HC.out.mono ?_); rintro e w4 ⟨v4, rfl, hown, hb4⟩; have c4 := (hb4.cell (p := ⟨D, 0, none⟩) hDl).trans c0)))
  all_goals
    go_wp2_with fail
    go_ret2
    exact ⟨_, rfl, hown, ((Below.refl _ _).drew : Below w3.heap.size w3 w3.drew).trans hb4⟩
set_option maxRecDepth 100000 in
set_option maxHeartbeats 1000000 in
theorem q_write (h : DB w D lo RS pl tag S room) (hG : br.Good S room) (hr : room ≤ 65536) (i off : Int) (A : Option Addr) (len dc : Nat) (f : Nat → UInt8) (hA : ∀ j, j < len → ∃ b o, A = some ⟨b, o, none⟩ ∧ tag b = 0 ∧ b < w.heap.size ∧ w.cell? ⟨b, o + j, none⟩ = some (U8 (f j))) (hlc : len ≤ dc) (hdc : dc ≤ maxLen) :
    Calls Tryz.prog 55 #[Pq D, .int .i64 i, .int .i64 off, .slice A len dc] w (fun e w' => (S.fileE i ≠ 0 ∧ e = .returned (.tuple #[.int .i64 0, .int .i64 (S.fileE i)]) ∧ w' = w) ∨ (S.fileE i = 0 ∧ ∃ (p : Nat) (err : Int), bl.WR (S.at i).body S.used room off len p err ∧ e = .returned (.tuple #[.int .i64 (p : Int), .int .i64 err]) ∧ NxD w w' D lo RS tag (S.wrote i off p f) room)) := by
  have HK := Lib.hid (q_file h i)
  unfold RetQ at HK
  by_cases h1 : S.fileE i = 0
  case neg =>
    obtain ⟨x, hx⟩ : ∃ x, S.fileE i = x := ⟨_, rfl⟩
    have HX := Lib.hid hx
    rw [hx] at HK h1
    have hq : (x != 0) = true := by simpa using h1
    have HN := Lib.hid h1
    clear h hG h1 hA hx hlc hdc
    go_enter Tryz.func55, Tryz.ntmps55
    go_wp2_with fail
    refine HK.out.mono ?_
    rintro e w3 ⟨rfl, rfl⟩
    go_wp2_with fail
    go_ret2
    exact .inl ⟨by rw [HX.out]; exact HN.out, by rw [HX.out]; rfl, rfl⟩
  have H1 := Lib.hid h1
  rw [h1] at HK
  obtain ⟨I, rfl, i1, i2, hk⟩ := fileE_ok h1
  have hd := h.drew
  obtain ⟨g1, g2, g3⟩ := Good_body2 hG hr I
  have hRF : ¬ RF D (pl I).vB (pl I).vT RS := by
    rintro (e | e | e)
    · exact h.loD.2.2 e
    · have := h.tI I i2 RS (.inl e); rw [h.tS] at this; omega
    · have := h.tI I i2 RS (.inr (.inl e)); rw [h.tS] at this; omega
  have hB : bl.BytesIn w.drew (fun x => RF D (pl I).vB (pl I).vT x ∨ x = RS) A len f := fun j hj => by
    obtain ⟨b, o, e, ht, hlt, hc⟩ := hA j hj
    refine ⟨b, o, e, ?_, hlt, hc⟩
    rintro ((e | e | e) | e)
    · rw [e, h.tD] at ht; cases ht
    · have := h.tI I i2 b (.inl e); omega
    · have := h.tI I i2 b (.inr (.inl e)); omega
    · rw [e, h.tS] at ht; cases ht
  have HC := Lib.hid (bl.rx.rwrite_any (off := off) (hd.ino I i2).b g1 hd.sto hRF g2 hG.1.room hr hB hlc hdc hd.loD.2.1)
  have HN := Lib.hid (fun W p vB vT T (hr : RS2 w.drew W lo D (1 + I * 9 + 5) RS room (S.used + (wr (S.ino I).body off p f).n - (S.ino I).body.n) (RF D (pl I).vB (pl I).vT) vB vT (wr (S.ino I).body off p f) T) => show NxD w W D lo RS tag (S.wrote (I : Int) off p f) room from by
    have := NxD.trans (Stp.below ((Below.refl _ w).drew)) (hd.body i2 hk hr)
    unfold BS.wrote
    rw [at_nat, Int.toNat_natCast]
    exact this)
  have c0 := hd.c0
  rw [at_nat]
  unfold bl.rx.RWriteE at HC
  have hI0 : (0 : Int) ≤ (I : Int) := by omega
  have hI1 : (I : Int) < 201 := by omega
  clear h hd hG h1 hk g1 g2 g3 hRF hB hA hlc hdc
  go_enter Tryz.func55, Tryz.ntmps55
  go_wp2_with fail
  refine HK.out.mono ?_
  rintro e w3 ⟨rfl, hw3⟩
  subst hw3
  go_wp2_with fail
  go_region_held3 (fun w' => w'.cell? ⟨D, 0, none⟩ = some (Pq RS))
    (first | exact c0 | exact c4 | assumption | go_keep)
    (first
    | (go_at_call 103; ((with_reducible refine HC.out.mono ?_); rintro e w4 ⟨p4, err4, vB, vT, T, rfl, hw4, hr4⟩; have hn4 := HN.out _ _ _ _ _ hr4; have c4 := hn4.c0)))
  all_goals
    go_wp2_with fail
    go_ret2
    exact .inr ⟨H1.out, _, _, hw4, rfl, hn4⟩
end
end Go.Proofs.YtlelnpckbcpkkaaGreat.cb
