/- Part 44 of what is known of the program's functions and of the document's words: contracts, and the mathematics beneath them. -/
import Derived.Test.YtpmpbmjjlccbbaaGreatProg
import Derived.Test.YtpmpbmjjlccbbaaGreatZ43
set_option linter.unusedVariables false
set_option linter.unusedSimpArgs false
set_option maxRecDepth 100000
set_option maxHeartbeats 8000000
namespace Go.Proofs.YtpmpbmjjlccbbaaGreat.tr
open Go.RowKit
open br (BS Inv Ino)
open cb (BrX RetW RetI)
open bl (Pq)
open wk (walkT pe pn pd e0 r0 dot1 dot2)
open ds (De Tb DA DV DL GetE StE IntsE lowV openT getV errV setT closeT full allT dz)
open pa (Bs Sv Strs Own own_form info9 own_base)
theorem m_rmdir {w0 w : World} {P B Q room T : Nat} {X : Nat → Prop} {y : Sy} (h : SyX w0 w P B Q X y room T) (hT : T ≤ 990) (hh : Hd room y) (c : Cal) :
  Calls Tryz.prog 71 #[Pq P, CV c] w (ME w0 w P B Q X room (T + 3) (fun r y' => (r, y') = doRmdir y c)) := by
 obtain ⟨co, cf, cl, cn, cx, ca, cb⟩ := c
 have hhR := Lib.hid h
 have HH := Lib.hid hh
 unfold CV
 dsimp only
 obtain ⟨g, b, w1, w2, hg, hw1, hb, hw2, HG2, HR2, HQ, H2⟩ := m_entry h co cf cl cn cx ca cb
 have HD := Lib.hid (me_done (w0 := w0) (w := w) (P := P) (B := B) (Q := Q) (X := X) (room := room) (T := T + 3) (rel := fun r y' => (r, y') = doRmdir y ⟨co, cf, cl, cn, cx, ca, cb⟩))
 have HT := Lib.hid hT
 obtain ⟨c0, c1, c2, c3, c4, c5, c6⟩ := HG2.out.seven
 unfold ME
 clear h hT hh
 have HC := Lib.hid (place_any H2.out.sy ca 16 (by decide))
 have HF := Lib.hid (show doRmdir y ⟨co, cf, cl, cn, cx, ca, cb⟩ = if placeE y.S ca 16 ≠ 0 then (wrong (placeE y.S ca 16), y) else (wrong (y.S.rmdir (placeD y.S ca) (placeN ca)).1, ⟨(y.S.rmdir (placeD y.S ca) (placeN ca)).2, y.T⟩) from rfl)
 unfold RetW placeV at HC
 generalize doRmdir y ⟨co, cf, cl, cn, cx, ca, cb⟩ = dd at *
 by_cases he : placeE y.S ca 16 = 0
 case neg =>
  rw [if_neg he] at HC
  rw [if_pos he] at HF
  generalize placeE y.S ca 16 = er at *
  have qe : (er != 0) = true := by simpa using he
  clear he
  go_enter Tryz.func71, Tryz.ntmps71
  go_wp2_with fail
  refine HC.out.mono ?_
  rintro _ w3 ⟨rfl, hb3⟩
  have H4 := Lib.hid (fun ob => H2.out.grow (bel_step hb3 (bel_alloc w3 ob)) rfl)
  have HR4 := Lib.hid (fun ob => HR2.out.below (bel_step hb3 (bel_alloc w3 ob)))
  have HQB := Lib.hid (fun ob => (show b < (w3.alloc ob).heap.size by have h1 := HQ.out; have h3 := hb3.size; rw [World.size_alloc]; omega))
  clear hb3 c0 c1 c2 c3 c4 c5 c6
  go_wp2_with fail
  refine (failed_any (er) _).mono ?_
  rintro _ w7 ⟨rfl, hb7⟩
  have H7 := Lib.hid ((H4.out _).below hb7)
  have HR7 := Lib.hid ((HR4.out _).below hb7)
  obtain ⟨x0, x1, x2, x3, x4, x5⟩ := HR7.out.six
  obtain ⟨y0, y1, y2, y3, y4, y5⟩ := HR7.out.z6
  clear hb7 
  go_wp2_with fail
  refine bodyPost_ret (results_cell1 rfl _ _ b _ _ rfl (set6r HR7.out _ _ _ _ _ _).range Tryz.underlying39 (by rfl) (by rfl)) rfl ?_
  exact HD.out _ _ _ (HF.out.symm) ((H7.out.set6 HQ.out.2.1.1 (HQB.out _) _ _ _ _ _ _).up (by omega : T ≤ T + 3)).done
 rw [if_pos he] at HC
 rw [if_neg (fun e => e he)] at HF
 clear he
 generalize placeD y.S ca = pi at *
 generalize placeN ca = pnm at *
 generalize pd ca = pdd at *
 go_enter Tryz.func71, Tryz.ntmps71
 go_wp2_with fail
 refine HC.out.mono ?_
 rintro _ w3 ⟨rfl, hb3⟩
 obtain ⟨w4, hw4⟩ : ∃ w4, w3.alloc (.cells #[.int .i64 pi, .string pnm, .bool pdd] 189) = w4 := ⟨_, rfl⟩
 obtain ⟨g4, hg4⟩ : ∃ g4, w3.heap.size = g4 := ⟨_, rfl⟩
 have hb34 : Below w3.heap.size w3 w4 := by rw [← hw4]; exact bel_alloc w3 _
 have hb4 := bel_step hb3 hb34
 have HP4 := Lib.hid (show Rw w4 g4 [.int .i64 pi, .string pnm, .bool pdd] by rw [← hw4, ← hg4]; exact Rw.new w3 [.int .i64 pi, .string pnm, .bool pdd] 189)
 have H4 := Lib.hid (H2.out.grow hb4 rfl)
 have HG4 := Lib.hid (HG2.out.below hb4)
 have HR4 := Lib.hid (HR2.out.below hb4)
 have HQ4 := Lib.hid (show (w.heap.size ≤ g4 ∧ g4 < w4.heap.size) ∧ g4 ≠ b by
  have h1 := HQ.out; have h2 := HP4.out.lt; have h3 := hb3.size; omega)
 have HN4 := Lib.hid (show w2.heap.size ≤ w4.heap.size from hb4.size)
 have HQB := Lib.hid (show b < w4.heap.size by have h1 := HQ.out; have h2 := HN4.out; omega)
 clear hb3 hb34 hb4 c0 c1 c2 c3 c4 c5 c6
 have H4d := Lib.hid (H4.out.below (Below.refl w4.heap.size w4).drew)
 have HP4d := Lib.hid (HP4.out.below (Below.refl w4.heap.size w4).drew)
 have HR4d := Lib.hid (HR4.out.below (Below.refl w4.heap.size w4).drew)
 have HM := Lib.hid (p_rmdir H4d.out.sy (by have := HT.out; omega) pi pnm)
 unfold StepE at HM
 generalize (y.S.rmdir pi pnm).1 = re at *
 generalize (y.S.rmdir pi pnm).2 = S' at *
 have S0 : w4.cell? ⟨P, 0, none⟩ = some (Pq B) ∧ w4.cell? ⟨g4, 0, none⟩ = some (.int .i64 pi) ∧ w4.cell? ⟨g4, 1, none⟩ = some (.string pnm) := ⟨H4.out.c0, HP4.out.c 0 _ rfl, HP4.out.c 1 _ rfl⟩
 go_wp2_with fail
 go_region_held3 (fun w' => w'.cell? ⟨P, 0, none⟩ = some (Pq B) ∧ w'.cell? ⟨g4, 0, none⟩ = some (.int .i64 pi) ∧ w'.cell? ⟨g4, 1, none⟩ = some (.string pnm))
  (first | with_reducible exact S0 | with_reducible exact S8 | with_reducible exact S9 | with_reducible exact ST | assumption | go_keep)
  (first | (go_at_call 129; ((with_reducible refine HM.out.mono ?_); rintro _ w8 ⟨rfl, k1, k2⟩; have H8 := Lib.hid (H4d.out.move k1 k2); have HR8 := Lib.hid (HR4d.out.keep k2 HQ.out.2.1.1 HQB.out k1); have HP48 := Lib.hid (HP4d.out.keep k2 HQ4.out.1.1 HQ4.out.1.2 k1); have S8 : w8.cell? ⟨P, 0, none⟩ = some (Pq B) ∧ w8.cell? ⟨g4, 0, none⟩ = some (.int .i64 pi) ∧ w8.cell? ⟨g4, 1, none⟩ = some (.string pnm) := ⟨k1.c0, (HP48.out).c 0 _ rfl, (HP48.out).c 1 _ rfl⟩; clear k1 k2)) | (go_at_call 30; ((with_reducible refine (failed_any re w8).mono ?_); rintro _ w9 ⟨rfl, hb9⟩; have H9 := Lib.hid (H8.out.below hb9); have HR9 := Lib.hid (HR8.out.below hb9); have HP49 := Lib.hid (HP48.out.below hb9); have S9 : w9.cell? ⟨P, 0, none⟩ = some (Pq B) ∧ w9.cell? ⟨g4, 0, none⟩ = some (.int .i64 pi) ∧ w9.cell? ⟨g4, 1, none⟩ = some (.string pnm) := ⟨H9.out.c0, (HP49.out).c 0 _ rfl, (HP49.out).c 1 _ rfl⟩; obtain ⟨x0, x1, x2, x3, x4, x5⟩ := HR9.out.six; obtain ⟨y0, y1, y2, y3, y4, y5⟩ := HR9.out.z6; have ST : ((((((w9.setCell ⟨b, 0, none⟩ (.int .i64 re)).setCell ⟨b, 1, none⟩ (.int .i64 0)).setCell ⟨b, 2, none⟩ (.string ⟨#[]⟩)).setCell ⟨b, 3, none⟩ (.int .i64 0)).setCell ⟨b, 4, none⟩ (.int .i64 0)).setCell ⟨b, 5, none⟩ (.int .i64 0)).cell? ⟨P, 0, none⟩ = some (Pq B) ∧ ((((((w9.setCell ⟨b, 0, none⟩ (.int .i64 re)).setCell ⟨b, 1, none⟩ (.int .i64 0)).setCell ⟨b, 2, none⟩ (.string ⟨#[]⟩)).setCell ⟨b, 3, none⟩ (.int .i64 0)).setCell ⟨b, 4, none⟩ (.int .i64 0)).setCell ⟨b, 5, none⟩ (.int .i64 0)).cell? ⟨g4, 0, none⟩ = some (.int .i64 pi) ∧ ((((((w9.setCell ⟨b, 0, none⟩ (.int .i64 re)).setCell ⟨b, 1, none⟩ (.int .i64 0)).setCell ⟨b, 2, none⟩ (.string ⟨#[]⟩)).setCell ⟨b, 3, none⟩ (.int .i64 0)).setCell ⟨b, 4, none⟩ (.int .i64 0)).setCell ⟨b, 5, none⟩ (.int .i64 0)).cell? ⟨g4, 1, none⟩ = some (.string pnm) := ⟨(H9.out.set6 (b := b) HQ.out.2.1.1 HQB.out (.int .i64 (re)) (.int .i64 0) (.string ⟨#[]⟩) (.int .i64 0) (.int .i64 0) (.int .i64 0)).c0, (HP49.out.other HQ4.out.2).c 0 _ rfl, (HP49.out.other HQ4.out.2).c 1 _ rfl⟩; clear hb9)))
 all_goals
  clear S0 S8 S9 ST
  go_wp2_with fail
  refine bodyPost_ret (results_cell1 rfl _ _ b _ _ rfl (set6r HR9.out _ _ _ _ _ _).range Tryz.underlying39 (by rfl) (by rfl)) rfl ?_
  exact HD.out _ _ _ (HF.out.symm) ((H9.out.set6 HQ.out.2.1.1 HQB.out _ _ _ _ _ _).up (by omega : T + 1 ≤ T + 3)).done
theorem find_lead (S : BS) (a : ByteArray) (fol : Bool) : ((lead S a fol).2 = 0 → findR S a fol = ((lead S a fol).1.2.2, 0)) ∧ ((lead S a fol).2 ≠ 0 → findR S a fol = (0, (lead S a fol).2)) :=
 ⟨fun h => if_pos h, fun h => if_neg h⟩
theorem lead_cases {S : BS} {a : ByteArray} {fol : Bool} {fi fe : Int} (h : findR S a fol = (fi, fe)) : (fe ≠ 0 ∧ (lead S a fol).2 = fe) ∨ (fe = 0 ∧ (lead S a fol).2 = 0 ∧ (lead S a fol).1.2.2 = fi) := by
 obtain ⟨h1, h2⟩ := find_lead S a fol
 by_cases e : (lead S a fol).2 = 0
 ·rw [h1 e] at h; injection h with a1 a2; exact .inr ⟨a2.symm, e, a1⟩
 ·rw [h2 e] at h; injection h with a1 a2; exact .inl ⟨by rw [← a2]; exact e, a2⟩
theorem m_cut {w0 w : World} {P B Q room T : Nat} {X : Nat → Prop} {y : Sy} (h : SyX w0 w P B Q X y room T) (hT : T ≤ 990) (hh : Hd room y) (c : Cal) :
  Calls Tryz.prog 67 #[Pq P, CV c] w (ME w0 w P B Q X room (T + 3) (fun r y' => (r, y') = doCut y c)) := by
 obtain ⟨co, cf, cl, cn, cx, ca, cb⟩ := c
 have hhR := Lib.hid h
 have HH := Lib.hid hh
 unfold CV
 dsimp only
 obtain ⟨g, b, w1, w2, hg, hw1, hb, hw2, HG2, HR2, HQ, H2⟩ := m_entry h co cf cl cn cx ca cb
 have HD := Lib.hid (me_done (w0 := w0) (w := w) (P := P) (B := B) (Q := Q) (X := X) (room := room) (T := T + 3) (rel := fun r y' => (r, y') = doCut y ⟨co, cf, cl, cn, cx, ca, cb⟩))
 have HT := Lib.hid hT
 obtain ⟨c0, c1, c2, c3, c4, c5, c6⟩ := HG2.out.seven
 unfold ME
 clear h hT hh
 have HC := Lib.hid (find_any H2.out.sy ca true)
 unfold RetW at HC
 obtain ⟨fr, hfr⟩ : ∃ fr, findR y.S ca true = fr := ⟨_, rfl⟩
 rw [hfr] at HC
 obtain ⟨fi, fe⟩ := fr
 dsimp only at HC
 rcases lead_cases hfr with ⟨he, hl⟩ | ⟨he, hl, hi⟩
 ·have HF := Lib.hid (show doCut y ⟨co, cf, cl, cn, cx, ca, cb⟩ = (wrong fe, y) by unfold doCut; dsimp only; rw [if_pos (by rw [hl]; exact he), hl])
  have qe : (fe != 0) = true := by simpa using he
  clear he hl hfr
  go_enter Tryz.func67, Tryz.ntmps67
  go_wp2_with fail
  refine HC.out.mono ?_
  rintro _ w4 ⟨rfl, hb4⟩
  have H4 := Lib.hid (H2.out.grow hb4 rfl)
  have HG4 := Lib.hid (HG2.out.below hb4)
  have HR4 := Lib.hid (HR2.out.below hb4)
  have HN4 := Lib.hid (show w2.heap.size ≤ w4.heap.size from hb4.size)
  have HQB := Lib.hid (show b < w4.heap.size by have h1 := HQ.out; have h2 := HN4.out; omega)
  have HQG := Lib.hid (show g < w4.heap.size by have h1 := HQ.out; have h2 := HN4.out; omega)
  clear hb4 c0 c1 c2 c3 c4 c5 c6
  go_wp2_with fail
  refine (failed_any (fe) w4).mono ?_
  rintro _ w7 ⟨rfl, hb7⟩
  have H7 := Lib.hid ((H4.out).below hb7)
  have HR7 := Lib.hid ((HR4.out).below hb7)
  obtain ⟨x0, x1, x2, x3, x4, x5⟩ := HR7.out.six
  obtain ⟨y0, y1, y2, y3, y4, y5⟩ := HR7.out.z6
  clear hb7 
  go_wp2_with fail
  refine bodyPost_ret (results_cell1 rfl _ _ b _ _ rfl (set6r HR7.out _ _ _ _ _ _).range Tryz.underlying39 (by rfl) (by rfl)) rfl ?_
  exact HD.out _ _ _ (HF.out.symm) ((H7.out.set6 HQ.out.2.1.1 HQB.out _ _ _ _ _ _).up (by omega : T ≤ T + 3)).done
 subst he
 have HF := Lib.hid (show doCut y ⟨co, cf, cl, cn, cx, ca, cb⟩ = (wrong (y.S.cutI fi cx).1, ⟨(y.S.cutI fi cx).2, y.T⟩) by unfold doCut; dsimp only; rw [if_neg (fun e => e hl), hi])
 clear hl hi hfr
 go_enter Tryz.func67, Tryz.ntmps67
 go_wp2_with fail
 refine HC.out.mono ?_
 rintro _ w4 ⟨rfl, hb4⟩
 have H4 := Lib.hid (H2.out.grow hb4 rfl)
 have HG4 := Lib.hid (HG2.out.below hb4)
 have HR4 := Lib.hid (HR2.out.below hb4)
 have HN4 := Lib.hid (show w2.heap.size ≤ w4.heap.size from hb4.size)
 have HQB := Lib.hid (show b < w4.heap.size by have h1 := HQ.out; have h2 := HN4.out; omega)
 have HQG := Lib.hid (show g < w4.heap.size by have h1 := HQ.out; have h2 := HN4.out; omega)
 clear hb4 c0 c1 c2 c3 c4 c5 c6
 have H4d := Lib.hid (H4.out.below (Below.refl w4.heap.size w4).drew)
 have HG4d := Lib.hid (HG4.out.below (Below.refl w4.heap.size w4).drew)
 have HR4d := Lib.hid (HR4.out.below (Below.refl w4.heap.size w4).drew)
 have HM := Lib.hid (p_cut H4d.out.sy fi cx)
 unfold StepE at HM
 generalize (y.S.cutI fi cx).1 = re at *
 generalize (y.S.cutI fi cx).2 = S' at *
 have S0 : w4.cell? ⟨P, 0, none⟩ = some (Pq B) ∧ w4.cell? ⟨g, 4, none⟩ = some (.int .i64 cx) := ⟨H4.out.c0, HG4.out.c 4 _ rfl⟩
 go_wp2_with fail
 go_region_held3 (fun w' => w'.cell? ⟨P, 0, none⟩ = some (Pq B) ∧ w'.cell? ⟨g, 4, none⟩ = some (.int .i64 cx))
  (first | with_reducible exact S0 | with_reducible exact S8 | with_reducible exact S9 | with_reducible exact ST | assumption | go_keep)
  (first | (go_at_call 116; ((with_reducible refine HM.out.mono ?_); rintro _ w8 ⟨rfl, k1, k2⟩; have H8 := Lib.hid (H4d.out.move k1 k2); have HR8 := Lib.hid (HR4d.out.keep k2 HQ.out.2.1.1 HQB.out k1); have HG48 := Lib.hid (HG4d.out.keep k2 HQ.out.1.1 HQG.out k1); have S8 : w8.cell? ⟨P, 0, none⟩ = some (Pq B) ∧ w8.cell? ⟨g, 4, none⟩ = some (.int .i64 cx) := ⟨k1.c0, (HG48.out).c 4 _ rfl⟩; clear k1 k2)) | (go_at_call 30; ((with_reducible refine (failed_any re w8).mono ?_); rintro _ w9 ⟨rfl, hb9⟩; have H9 := Lib.hid (H8.out.below hb9); have HR9 := Lib.hid (HR8.out.below hb9); have HG49 := Lib.hid (HG48.out.below hb9); have S9 : w9.cell? ⟨P, 0, none⟩ = some (Pq B) ∧ w9.cell? ⟨g, 4, none⟩ = some (.int .i64 cx) := ⟨H9.out.c0, (HG49.out).c 4 _ rfl⟩; obtain ⟨x0, x1, x2, x3, x4, x5⟩ := HR9.out.six; obtain ⟨y0, y1, y2, y3, y4, y5⟩ := HR9.out.z6; have ST : ((((((w9.setCell ⟨b, 0, none⟩ (.int .i64 re)).setCell ⟨b, 1, none⟩ (.int .i64 0)).setCell ⟨b, 2, none⟩ (.string ⟨#[]⟩)).setCell ⟨b, 3, none⟩ (.int .i64 0)).setCell ⟨b, 4, none⟩ (.int .i64 0)).setCell ⟨b, 5, none⟩ (.int .i64 0)).cell? ⟨P, 0, none⟩ = some (Pq B) ∧ ((((((w9.setCell ⟨b, 0, none⟩ (.int .i64 re)).setCell ⟨b, 1, none⟩ (.int .i64 0)).setCell ⟨b, 2, none⟩ (.string ⟨#[]⟩)).setCell ⟨b, 3, none⟩ (.int .i64 0)).setCell ⟨b, 4, none⟩ (.int .i64 0)).setCell ⟨b, 5, none⟩ (.int .i64 0)).cell? ⟨g, 4, none⟩ = some (.int .i64 cx) := ⟨(H9.out.set6 (b := b) HQ.out.2.1.1 HQB.out (.int .i64 (re)) (.int .i64 0) (.string ⟨#[]⟩) (.int .i64 0) (.int .i64 0) (.int .i64 0)).c0, (HG49.out.other HQ.out.2.2).c 4 _ rfl⟩; clear hb9)))
 all_goals
  clear S0 S8 S9 ST
  go_wp2_with fail
  refine bodyPost_ret (results_cell1 rfl _ _ b _ _ rfl (set6r HR9.out _ _ _ _ _ _).range Tryz.underlying39 (by rfl) (by rfl)) rfl ?_
  exact HD.out _ _ _ (HF.out.symm) ((H9.out.set6 HQ.out.2.1.1 HQB.out _ _ _ _ _ _).up (by omega : T + 1 ≤ T + 3)).done
theorem unlink_nu {y : Sy} {room : Nat} (hG : br.Good y.S room) {c : Cal} (h : placeE y.S c.a 21 = 0) (hp : pd c.a = true) : doUnlink y c = (wrong (nuE y.S (placeD y.S c.a) (placeN c.a)), y) := by
 have hd := (place_dirE hG (by decide) h).1
 unfold doUnlink nuE
 rw [if_neg (fun e => e h)]
 dsimp only
 by_cases h1 : (y.S.get (placeD y.S c.a) (placeN c.a)).2 = 0
 ·have e1 : ¬ ((y.S.get (placeD y.S c.a) (placeN c.a)).2 ≠ 0) := fun e => e h1
  by_cases h2 : y.S.kindOf (y.S.get (placeD y.S c.a) (placeN c.a)).1 = 2
  ·rw [if_neg (fun e => e.2.2 h2), if_neg e1, if_pos h2]
   have h3 : (y.S.at (y.S.get (placeD y.S c.a) (placeN c.a)).1).kind = 2 := by
    unfold BS.kindOf at h2
    split at h2
    ·exact h2
    ·exact absurd h2 (by decide)
   have : y.S.unlink (placeD y.S c.a) (placeN c.a) = (21, y.S) := by
    unfold BS.unlink; rw [if_neg (fun e => e hd), if_neg e1, if_pos h3]
   rw [this]
  ·rw [if_pos ⟨hp, h1, h2⟩, if_neg e1, if_neg h2]
 ·rw [if_neg (fun e => h1 e.2.1), if_pos h1]
  have : y.S.unlink (placeD y.S c.a) (placeN c.a) = ((y.S.get (placeD y.S c.a) (placeN c.a)).2, y.S) := by
   unfold BS.unlink; rw [if_neg (fun e => e hd), if_pos h1]
  rw [this]
theorem m_unlink {w0 w : World} {P B Q room T : Nat} {X : Nat → Prop} {y : Sy} (h : SyX w0 w P B Q X y room T) (hT : T ≤ 990) (hh : Hd room y) (c : Cal) :
  Calls Tryz.prog 72 #[Pq P, CV c] w (ME w0 w P B Q X room (T + 3) (fun r y' => (r, y') = doUnlink y c)) := by
 obtain ⟨co, cf, cl, cn, cx, ca, cb⟩ := c
 have hhR := Lib.hid h
 have HH := Lib.hid hh
 unfold CV
 dsimp only
 obtain ⟨g, b, w1, w2, hg, hw1, hb, hw2, HG2, HR2, HQ, H2⟩ := m_entry h co cf cl cn cx ca cb
 have HD := Lib.hid (me_done (w0 := w0) (w := w) (P := P) (B := B) (Q := Q) (X := X) (room := room) (T := T + 3) (rel := fun r y' => (r, y') = doUnlink y ⟨co, cf, cl, cn, cx, ca, cb⟩))
 have HT := Lib.hid hT
 obtain ⟨c0, c1, c2, c3, c4, c5, c6⟩ := HG2.out.seven
 unfold ME
 clear h hT hh
 have HC := Lib.hid (place_any H2.out.sy ca 21 (by decide))
 unfold RetW placeV at HC
 by_cases he : placeE y.S ca 21 = 0
 case neg =>
  have HF := Lib.hid (show doUnlink y ⟨co, cf, cl, cn, cx, ca, cb⟩ = (wrong (placeE y.S ca 21), y) from if_pos he)
  rw [if_neg he] at HC
  generalize doUnlink y ⟨co, cf, cl, cn, cx, ca, cb⟩ = dd at *
  generalize placeE y.S ca 21 = er at *
  have qe : (er != 0) = true := by simpa using he
  clear he
  go_enter Tryz.func72, Tryz.ntmps72
  go_wp2_with fail
  refine HC.out.mono ?_
  rintro _ w3 ⟨rfl, hb3⟩
  have H4 := Lib.hid (fun ob => H2.out.grow (bel_step hb3 (bel_alloc w3 ob)) rfl)
  have HR4 := Lib.hid (fun ob => HR2.out.below (bel_step hb3 (bel_alloc w3 ob)))
  have HQB := Lib.hid (fun ob => (show b < (w3.alloc ob).heap.size by have h1 := HQ.out; have h3 := hb3.size; rw [World.size_alloc]; omega))
  clear hb3 c0 c1 c2 c3 c4 c5 c6
  go_wp2_with fail
  refine (failed_any (er) _).mono ?_
  rintro _ w7 ⟨rfl, hb7⟩
  have H7 := Lib.hid ((H4.out _).below hb7)
  have HR7 := Lib.hid ((HR4.out _).below hb7)
  obtain ⟨x0, x1, x2, x3, x4, x5⟩ := HR7.out.six
  obtain ⟨y0, y1, y2, y3, y4, y5⟩ := HR7.out.z6
  clear hb7 
  go_wp2_with fail
  refine bodyPost_ret (results_cell1 rfl _ _ b _ _ rfl (set6r HR7.out _ _ _ _ _ _).range Tryz.underlying39 (by rfl) (by rfl)) rfl ?_
  exact HD.out _ _ _ (HF.out.symm) ((H7.out.set6 HQ.out.2.1.1 (HQB.out _) _ _ _ _ _ _).up (by omega : T ≤ T + 3)).done
 rw [if_pos he] at HC
 cases hp : pd ca with
 | true =>
  have HF := Lib.hid (unlink_nu (c := ⟨co, cf, cl, cn, cx, ca, cb⟩) hhR.out.good he hp)
  rw [hp] at HC
  dsimp only at HF
  generalize doUnlink y ⟨co, cf, cl, cn, cx, ca, cb⟩ = dd at *
  generalize placeD y.S ca = pi at *
  generalize placeN ca = pnm at *
  clear he hp
  go_enter Tryz.func72, Tryz.ntmps72
  go_wp2_with fail
  refine HC.out.mono ?_
  rintro _ w3 ⟨rfl, hb3⟩
  obtain ⟨w4, hw4⟩ : ∃ w4, w3.alloc (.cells #[.int .i64 pi, .string pnm, .bool true] 189) = w4 := ⟨_, rfl⟩
  obtain ⟨g4, hg4⟩ : ∃ g4, w3.heap.size = g4 := ⟨_, rfl⟩
  have hb34 : Below w3.heap.size w3 w4 := by rw [← hw4]; exact bel_alloc w3 _
  have hb4 := bel_step hb3 hb34
  have HP4 := Lib.hid (show Rw w4 g4 [.int .i64 pi, .string pnm, .bool true] by rw [← hw4, ← hg4]; exact Rw.new w3 [.int .i64 pi, .string pnm, .bool true] 189)
  have H4 := Lib.hid (H2.out.grow hb4 rfl)
  have HG4 := Lib.hid (HG2.out.below hb4)
  have HR4 := Lib.hid (HR2.out.below hb4)
  have HQ4 := Lib.hid (show (w.heap.size ≤ g4 ∧ g4 < w4.heap.size) ∧ g4 ≠ b by
   have h1 := HQ.out; have h2 := HP4.out.lt; have h3 := hb3.size; omega)
  have HN4 := Lib.hid (show w2.heap.size ≤ w4.heap.size from hb4.size)
  have HQB := Lib.hid (show b < w4.heap.size by have h1 := HQ.out; have h2 := HN4.out; omega)
  clear hb3 hb34 hb4 c0 c1 c2 c3 c4 c5 c6
  have HNU := Lib.hid (notUnlinked_any H4.out.sy pi pnm true)
  unfold RetI at HNU
  generalize nuE y.S pi pnm = re at *
  obtain ⟨t0, t1, t2⟩ := HP4.out.three
  go_wp2_with fail
  refine HNU.out.mono ?_
  rintro _ w5 ⟨rfl, hb5⟩
  have H5 := Lib.hid (H4.out.below hb5)
  have HR5 := Lib.hid (HR4.out.below hb5)
  clear hb5 t0 t1 t2
  go_wp2_with fail
  refine (failed_any (re) w5).mono ?_
  rintro _ w7 ⟨rfl, hb7⟩
  have H7 := Lib.hid ((H5.out).below hb7)
  have HR7 := Lib.hid ((HR5.out).below hb7)
  obtain ⟨x0, x1, x2, x3, x4, x5⟩ := HR7.out.six
  obtain ⟨y0, y1, y2, y3, y4, y5⟩ := HR7.out.z6
  clear hb7 
  go_wp2_with fail
  refine bodyPost_ret (results_cell1 rfl _ _ b _ _ rfl (set6r HR7.out _ _ _ _ _ _).range Tryz.underlying39 (by rfl) (by rfl)) rfl ?_
  exact HD.out _ _ _ (HF.out.symm) ((H7.out.set6 HQ.out.2.1.1 HQB.out _ _ _ _ _ _).up (by omega : T ≤ T + 3)).done
 | false =>
 have HF := Lib.hid (show doUnlink y ⟨co, cf, cl, cn, cx, ca, cb⟩ = (wrong (y.S.unlink (placeD y.S ca) (placeN ca)).1, ⟨(y.S.unlink (placeD y.S ca) (placeN ca)).2, y.T⟩) by
  unfold doUnlink; rw [if_neg (fun e => e he)]; dsimp only; rw [if_neg (fun e => by rw [hp] at e; cases e.1)])
 rw [hp] at HC
 generalize doUnlink y ⟨co, cf, cl, cn, cx, ca, cb⟩ = dd at *
 generalize placeD y.S ca = pi at *
 generalize placeN ca = pnm at *
 clear he hp
 obtain ⟨pf, hpf⟩ : ∃ pf : Bool, pf = false := ⟨_, rfl⟩
 rw [← hpf] at HC
 have HPF := Lib.hid hpf
 clear hpf
 go_enter Tryz.func72, Tryz.ntmps72
 go_wp2_with fail
 refine HC.out.mono ?_
 rintro _ w3 ⟨rfl, hb3⟩
 obtain ⟨w4, hw4⟩ : ∃ w4, w3.alloc (.cells #[.int .i64 pi, .string pnm, .bool pf] 189) = w4 := ⟨_, rfl⟩
 obtain ⟨g4, hg4⟩ : ∃ g4, w3.heap.size = g4 := ⟨_, rfl⟩
 have hb34 : Below w3.heap.size w3 w4 := by rw [← hw4]; exact bel_alloc w3 _
 have hb4 := bel_step hb3 hb34
 have HP4 := Lib.hid (show Rw w4 g4 [.int .i64 pi, .string pnm, .bool pf] by rw [← hw4, ← hg4]; exact Rw.new w3 [.int .i64 pi, .string pnm, .bool pf] 189)
 have H4 := Lib.hid (H2.out.grow hb4 rfl)
 have HG4 := Lib.hid (HG2.out.below hb4)
 have HR4 := Lib.hid (HR2.out.below hb4)
 have HQ4 := Lib.hid (show (w.heap.size ≤ g4 ∧ g4 < w4.heap.size) ∧ g4 ≠ b by
  have h1 := HQ.out; have h2 := HP4.out.lt; have h3 := hb3.size; omega)
 have HN4 := Lib.hid (show w2.heap.size ≤ w4.heap.size from hb4.size)
 have HQB := Lib.hid (show b < w4.heap.size by have h1 := HQ.out; have h2 := HN4.out; omega)
 clear hb3 hb34 hb4 c0 c1 c2 c3 c4 c5 c6
 have H4d := Lib.hid (H4.out.below (Below.refl w4.heap.size w4).drew)
 have HP4d := Lib.hid (HP4.out.below (Below.refl w4.heap.size w4).drew)
 have HR4d := Lib.hid (HR4.out.below (Below.refl w4.heap.size w4).drew)
 have HM := Lib.hid (p_unlink H4d.out.sy (by have := HT.out; omega) pi pnm)
 unfold StepE at HM
 generalize (y.S.unlink pi pnm).1 = re at *
 generalize (y.S.unlink pi pnm).2 = S' at *
 have t2 : w4.cell? ⟨g4, 2, none⟩ = some (.bool false) := by have := HP4.out.c 2 _ rfl; rw [HPF.out] at this; exact this
 have S0 : w4.cell? ⟨P, 0, none⟩ = some (Pq B) ∧ w4.cell? ⟨g4, 0, none⟩ = some (.int .i64 pi) ∧ w4.cell? ⟨g4, 1, none⟩ = some (.string pnm) := ⟨H4.out.c0, HP4.out.c 0 _ rfl, HP4.out.c 1 _ rfl⟩
 go_wp2_with fail
 go_region_held3 (fun w' => w'.cell? ⟨P, 0, none⟩ = some (Pq B) ∧ w'.cell? ⟨g4, 0, none⟩ = some (.int .i64 pi) ∧ w'.cell? ⟨g4, 1, none⟩ = some (.string pnm))
  (first | with_reducible exact S0 | with_reducible exact S8 | with_reducible exact S9 | with_reducible exact ST | assumption | go_keep)
  (first | (go_at_call 131; ((with_reducible refine HM.out.mono ?_); rintro _ w8 ⟨rfl, k1, k2⟩; have H8 := Lib.hid (H4d.out.move k1 k2); have HR8 := Lib.hid (HR4d.out.keep k2 HQ.out.2.1.1 HQB.out k1); have HP48 := Lib.hid (HP4d.out.keep k2 HQ4.out.1.1 HQ4.out.1.2 k1); have S8 : w8.cell? ⟨P, 0, none⟩ = some (Pq B) ∧ w8.cell? ⟨g4, 0, none⟩ = some (.int .i64 pi) ∧ w8.cell? ⟨g4, 1, none⟩ = some (.string pnm) := ⟨k1.c0, (HP48.out).c 0 _ rfl, (HP48.out).c 1 _ rfl⟩; clear k1 k2)) | (go_at_call 30; ((with_reducible refine (failed_any re w8).mono ?_); rintro _ w9 ⟨rfl, hb9⟩; have H9 := Lib.hid (H8.out.below hb9); have HR9 := Lib.hid (HR8.out.below hb9); have HP49 := Lib.hid (HP48.out.below hb9); have S9 : w9.cell? ⟨P, 0, none⟩ = some (Pq B) ∧ w9.cell? ⟨g4, 0, none⟩ = some (.int .i64 pi) ∧ w9.cell? ⟨g4, 1, none⟩ = some (.string pnm) := ⟨H9.out.c0, (HP49.out).c 0 _ rfl, (HP49.out).c 1 _ rfl⟩; obtain ⟨x0, x1, x2, x3, x4, x5⟩ := HR9.out.six; obtain ⟨y0, y1, y2, y3, y4, y5⟩ := HR9.out.z6; have ST : ((((((w9.setCell ⟨b, 0, none⟩ (.int .i64 re)).setCell ⟨b, 1, none⟩ (.int .i64 0)).setCell ⟨b, 2, none⟩ (.string ⟨#[]⟩)).setCell ⟨b, 3, none⟩ (.int .i64 0)).setCell ⟨b, 4, none⟩ (.int .i64 0)).setCell ⟨b, 5, none⟩ (.int .i64 0)).cell? ⟨P, 0, none⟩ = some (Pq B) ∧ ((((((w9.setCell ⟨b, 0, none⟩ (.int .i64 re)).setCell ⟨b, 1, none⟩ (.int .i64 0)).setCell ⟨b, 2, none⟩ (.string ⟨#[]⟩)).setCell ⟨b, 3, none⟩ (.int .i64 0)).setCell ⟨b, 4, none⟩ (.int .i64 0)).setCell ⟨b, 5, none⟩ (.int .i64 0)).cell? ⟨g4, 0, none⟩ = some (.int .i64 pi) ∧ ((((((w9.setCell ⟨b, 0, none⟩ (.int .i64 re)).setCell ⟨b, 1, none⟩ (.int .i64 0)).setCell ⟨b, 2, none⟩ (.string ⟨#[]⟩)).setCell ⟨b, 3, none⟩ (.int .i64 0)).setCell ⟨b, 4, none⟩ (.int .i64 0)).setCell ⟨b, 5, none⟩ (.int .i64 0)).cell? ⟨g4, 1, none⟩ = some (.string pnm) := ⟨(H9.out.set6 (b := b) HQ.out.2.1.1 HQB.out (.int .i64 (re)) (.int .i64 0) (.string ⟨#[]⟩) (.int .i64 0) (.int .i64 0) (.int .i64 0)).c0, (HP49.out.other HQ4.out.2).c 0 _ rfl, (HP49.out.other HQ4.out.2).c 1 _ rfl⟩; clear hb9)))
 all_goals
  clear S0 S8 S9 ST
  go_wp2_with fail
  refine bodyPost_ret (results_cell1 rfl _ _ b _ _ rfl (set6r HR9.out _ _ _ _ _ _).range Tryz.underlying39 (by rfl) (by rfl)) rfl ?_
  exact HD.out _ _ _ (HF.out.symm) ((H9.out.set6 HQ.out.2.1.1 HQB.out _ _ _ _ _ _).up (by omega : T + 1 ≤ T + 3)).done
end Go.Proofs.YtpmpbmjjlccbbaaGreat.tr
