/- Part 42 of what is known of the program's functions and of the document's words: contracts, and the mathematics beneath them. -/
import Derived.Test.YtpmpbmjjlccbbaaGreatProg
import Derived.Test.YtpmpbmjjlccbbaaGreatZ41
set_option linter.unusedVariables false
set_option linter.unusedSimpArgs false
set_option maxRecDepth 100000
set_option maxHeartbeats 8000000
namespace Go.Proofs.YtpmpbmjjlccbbaaGreat.tr
open Go.RowKit
open br (BS Inv Ino)
open cb (BrX RetW RetI)
open bl (Pq)
open wk (walkT pe pn pd e0 r0 dot1 dot2)
open ds (De Tb DA DV DL GetE StE IntsE lowV openT getV errV setT closeT full allT dz)
open pa (Bs Sv Strs Own own_form info9 own_base)
theorem lead_sz (S : BS) (t : ByteArray) (fol : Bool) : (lead S t fol).1.2.1.size ≤ 60 := by
 unfold lead
 split
 ·exact (by decide : e0.size ≤ 60)
 ·exact wk.walk_sz _ _ _ _ _ _ (wk.pn_sz t)
def toOpenR (S : BS) (a : ByteArray) (f : Int) : (Int × Int) × BS :=
 let alone := bit f 2 && bit f 3
 let r := lead S a (!alone)
 if r.2 = 2 ∧ r.1.2.1 ≠ e0 ∧ bit f 2 = true then
  if pd a = true then ((0, 21), S) else (((S.make r.1.1 r.1.2.1 1 e0).1.1, (S.make r.1.1 r.1.2.1 1 e0).1.2), (S.make r.1.1 r.1.2.1 1 e0).2)
 else if r.2 ≠ 0 then ((0, r.2), S)
 else if alone = true then ((0, 17), S)
 else if S.kindOf r.1.2.2 = 2 then ((0, 21), S) else if S.kindOf r.1.2.2 = 3 then ((0, 40), S) else ((r.1.2.2, 0), S)
theorem toOpen_tf {w0 w : World} {P B Q room T : Nat} {X : Nat → Prop} {y : Sy} (h : SyX w0 w P B Q X y room T) (hT : T ≤ 1000) (a : ByteArray) (f : Int) (hc2 : bit f 2 = true) (hc3 : bit f 3 = false) :
  Calls Tryz.prog 115 #[Pq P, .string a, .int .i64 f] w (StepE w0 w P B Q X (.tuple #[.int .i64 (toOpenR y.S a f).1.1, .int .i64 (toOpenR y.S a f).1.2]) ⟨(toOpenR y.S a f).2, y.T⟩ room (T + 1)) := by
 have HP := Lib.hid (pa.parse_any a w)
 unfold pa.ParseE at HP
 have HPE := Lib.hid (show pa.perr a.data.toList = wk.pe a from rfl)
 obtain ⟨ns, hns⟩ : ∃ ns, pa.pnames a.data.toList = ns := ⟨_, rfl⟩
 have HPN := Lib.hid (show wk.pn a = cb.nsB ns by rw [← hns]; rfl)
 have hnl : ns.length ≤ 40 := by rw [← hns]; exact pa.pnames_le _
 obtain ⟨dp, hdp⟩ : ∃ dp, pa.pdirE a.data.toList = dp := ⟨_, rfl⟩
 have HPD := Lib.hid (show wk.pd a = dp from hdp)
 obtain ⟨er, her⟩ : ∃ er, wk.pe a = er := ⟨_, rfl⟩
 have HER := Lib.hid her
 rw [hns, hdp, HPE.out, her] at HP
 obtain ⟨n, hn⟩ : ∃ n, ns.length = n := ⟨_, rfl⟩
 have HN := Lib.hid hn
 rw [hn] at HP hnl
 clear hns hdp her hn
 have HS := Lib.hid h
 have hb2 := bit_2 f
 have hb3 := bit_3 f
 rw [hc2] at hb2
 rw [hc3] at hb3
 have HWL := Lib.hid (show ∀ W, Below w.heap.size w W → ∀ (A : Option Addr) (c : Nat), n ≤ c → Strs W W.heap.size A ns → Calls Tryz.prog 161 #[.iface 26 (Pq B), .agg #[.slice A n c, .bool dp], .bool true] W (cb.TopE W (walkT (cb.trS y.S) true 40 1 (cb.nsB ns) dp)) from fun W hb A c hc hs => p_walk (h.below hb) dp true HN.out.symm (by omega) hc hs)
 have HD0 := Lib.hid (show ∀ W i e, toOpenR y.S a f = ((i, e), y.S) → Below w.heap.size w W → StepE w0 w P B Q X (.tuple #[.int .i64 (toOpenR y.S a f).1.1, .int .i64 (toOpenR y.S a f).1.2]) ⟨(toOpenR y.S a f).2, y.T⟩ room (T + 1) (.returned (.tuple #[.int .i64 i, .int .i64 e])) W from fun W i e he hb => by
  rw [he]; exact ⟨rfl, (h.below hb).up (by omega), h.keeps hb⟩)
 have HTR := Lib.hid (show ∀ R, lead y.S a true = R → toOpenR y.S a f = if R.2 = 2 ∧ R.1.2.1 ≠ e0 ∧ true = true then
   if pd a = true then ((0, 21), y.S) else (((y.S.make R.1.1 R.1.2.1 1 e0).1.1, (y.S.make R.1.1 R.1.2.1 1 e0).1.2), (y.S.make R.1.1 R.1.2.1 1 e0).2)
  else if R.2 ≠ 0 then ((0, R.2), y.S)
  else if (true && false) = true then ((0, 17), y.S)
  else if y.S.kindOf R.1.2.2 = 2 then ((0, 21), y.S) else if y.S.kindOf R.1.2.2 = 3 then ((0, 40), y.S) else ((R.1.2.2, 0), y.S) from fun R hR => by
  unfold toOpenR; dsimp only; rw [hc2, hc3]; rw [show (!(true && false)) = true from rfl, hR])
 have HT := Lib.hid hT
 have HSZ := Lib.hid (lead_sz y.S a true)
 clear hc2 hc3 hT
 by_cases he : er = 0
 case neg =>
  have HF := Lib.hid (show toOpenR y.S a f = ((0, er), y.S) by
   have hl : lead y.S a true = (r0, er) := by unfold lead; rw [HER.out, if_pos he]
   rw [HTR.out _ hl, if_neg (fun e => e.2.1 rfl), if_pos he])
  have qe : (er != 0) = true := by simpa using he
  clear he hb2 hb3
  go_enter Tryz.func115, Tryz.ntmps115
  go_wp2_with fail
  refine HP.out.mono ?_
  rintro _ w2 ⟨A1, c1, rfl, -, hb2⟩
  have HB2 := Lib.hid hb2
  clear hb2
  go_wp2_with fail
  go_ret2
  exact HD0.out _ _ _ HF.out (bel_step HB2.out (bel_alloc w2 _))
 subst he
 obtain ⟨R, hR⟩ : ∃ R, walkT (cb.trS y.S) true 40 1 (cb.nsB ns) dp = R := ⟨_, rfl⟩
 have HL := Lib.hid (show lead y.S a true = R by unfold lead; rw [HER.out, if_neg (wk.nn rfl), HPN.out, HPD.out]; exact hR)
 rw [hR] at HWL
 have HF := Lib.hid (HTR.out R HL.out)
 rw [HL.out] at HSZ
 clear hR HTR
 obtain ⟨⟨xa, xn, xi⟩, xe⟩ := R
 unfold cb.TopE cb.FoundV at HWL
 dsimp only at HWL HF HSZ
 go_enter Tryz.func115, Tryz.ntmps115
 go_wp2_with fail
 refine HP.out.mono ?_
 rintro _ w2 ⟨A1, c1, rfl, hown, hb2w⟩
 obtain ⟨w3, hw3⟩ : ∃ w3, w2.alloc (.cells #[.slice A1 n c1, .bool dp] 149) = w3 := ⟨_, rfl⟩
 obtain ⟨g, hg⟩ : ∃ g, w2.heap.size = g := ⟨_, rfl⟩
 have hb23 : Below w2.heap.size w2 w3 := by rw [← hw3]; exact bel_alloc w2 _
 have HB3 := Lib.hid (bel_step hb2w hb23)
 have HRG := Lib.hid (show Rw w3 g [.slice A1 n c1, .bool dp] by rw [← hw3, ← hg]; exact Rw.new w2 [.slice A1 n c1, .bool dp] 149)
 have hcap := cb.own_le hown
 rw [HN.out] at hcap
 have HST := Lib.hid (show Strs w3 w3.heap.size A1 ns from fun hn => by
  obtain ⟨ad, e, h1, h2⟩ := hown.strs hn
  exact ⟨ad, e, Nat.lt_of_lt_of_le h1 hb23.size, fun j x hx => (hb23.cell (p := ad.add j) (by rw [pa.addr_block]; exact h1)).trans (h2 j x hx)⟩)
 have HSF := Lib.hid (show ∀ W, Below w3.heap.size w3 W → W.cell? ⟨P, 0, none⟩ = some (Pq B) ∧ W.cell? ⟨g, 0, none⟩ = some (.slice A1 n c1) ∧ W.cell? ⟨g, 1, none⟩ = some (.bool dp) from fun W hb => ⟨(HS.out.below (bel_step HB3.out hb)).c0, (HRG.out.below hb).two⟩)
 have HKK := Lib.hid (show ∀ W, Below w3.heap.size w3 W → Calls Tryz.prog 161 #[.iface 26 (Pq B), .agg #[.slice A1 n c1, .bool dp], .bool true] W (fun e w' => e = .returned (.tuple #[.agg #[.int .i64 xa, .string xn, .int .i64 xi], .int .i64 xe]) ∧ Below W.heap.size W w') from fun W hb => HWL.out W (bel_step HB3.out hb) A1 c1 hcap (fun hn => by
  obtain ⟨ad, e, h1, h2⟩ := HST.out hn
  exact ⟨ad, e, Nat.lt_of_lt_of_le h1 hb.size, fun j x hx => (hb.cell (p := ad.add j) (by rw [pa.addr_block]; exact h1)).trans (h2 j x hx)⟩))
 clear hown hb2w hb23 HWL HP
 go_upto_region 6 with fail
 go_cut [12, 9] from 13 to 85 (fun va vb wx => ∃ G, va = .pointer (some ⟨G, 0, none⟩) ∧ vb = .int .i64 xe ∧ Hid (Below w3.heap.size w3 wx) ∧ Hid (Rw wx G [.int .i64 xa, .string xn, .int .i64 xi]) ∧ Hid (w3.heap.size ≤ G))
 case first =>
  have HAB := Lib.hid (fun ob => bel_alloc w3 ob)
  have HZ := Lib.hid (Rw.new w3 [.int .i64 0, .string ⟨#[]⟩, .int .i64 0] 212)
  have S0 := HSF.out w3 (Below.refl _ _)
  have SA := HSF.out _ (HAB.out (.cells #[.int .i64 0, .string ⟨#[]⟩, .int .i64 0] 212))
  go_region_held3 (fun w' => w'.cell? ⟨P, 0, none⟩ = some (Pq B) ∧ w'.cell? ⟨g, 0, none⟩ = some (.slice A1 n c1) ∧ w'.cell? ⟨g, 1, none⟩ = some (.bool dp))
   (first | exact S0 | exact S5 | exact SA | exact ST | assumption | go_keep)
   (first | (go_at_call 161; ((with_reducible refine (HKK.out _ (Below.refl w3.heap.size w3).drew).mono ?_); rintro _ w5 ⟨rfl, hb5⟩; have hb5' := ((Below.refl w3.heap.size w3).drew).trans hb5; have S5 := HSF.out w5 hb5'; have HFE := Lib.hid (show ∃ G, w5.heap.size = G ∧ Below w3.heap.size w3 (w5.alloc (.cells #[.int .i64 xa, .string xn, .int .i64 xi] 212)) ∧ Rw (w5.alloc (.cells #[.int .i64 xa, .string xn, .int .i64 xi] 212)) G [.int .i64 xa, .string xn, .int .i64 xi] ∧ w3.heap.size ≤ G from ⟨_, rfl, bel_step hb5' (bel_alloc w5 _), Rw.new w5 [.int .i64 xa, .string xn, .int .i64 xi] 212, hb5'.size⟩))) | (go_at_call 161; ((with_reducible refine (HKK.out _ (HAB.out (.cells #[.int .i64 0, .string ⟨#[]⟩, .int .i64 0] 212)).drew).mono ?_); rintro _ w5 ⟨rfl, hb5⟩; have hb5' := ((Below.refl (w3.alloc (.cells #[.int .i64 0, .string ⟨#[]⟩, .int .i64 0] 212)).heap.size (w3.alloc (.cells #[.int .i64 0, .string ⟨#[]⟩, .int .i64 0] 212))).drew).trans hb5; have hb5w := bel_step (HAB.out _) hb5'; have S5 := HSF.out w5 hb5w; have HR5 := Lib.hid (HZ.out.below hb5'); obtain ⟨x0, x1, x2⟩ := HR5.out.three; obtain ⟨y0, y1, y2, y3, y4, y5⟩ := HR5.out.z6; have HFG := Lib.hid (set3 (w0 := w3) HR5.out hb5w (Nat.le_refl _) (.int .i64 xa) (.string xn) (.int .i64 xi)); have ST := HSF.out _ HFG.out.2)))
  all_goals
   go_wp2_with fail
   go_meet
   case rel => first | exact ⟨_, rfl, rfl, Lib.hid HFG.out.2, Lib.hid HFG.out.1, Lib.hid (Nat.le_refl _)⟩ | (obtain ⟨G, hG, h1, h2, h3⟩ := HFE.out; subst hG; exact ⟨_, rfl, rfl, Lib.hid h1, Lib.hid h2, Lib.hid h3⟩)
 case rest =>
 obtain ⟨G, rfl, rfl, HB6, HG6, HGL⟩ := hcut
 have HBB := Lib.hid (bel_step HB3.out HB6.out)
 obtain ⟨t0, t1, t2⟩ := HG6.out.three
 have HRC := Lib.hid (HRG.out.below HB6.out)
 have HEC := Lib.hid (fun (e : xn = e0) => (show xn.toList = [] by rw [e, Lib.toList_data]; rfl))
 by_cases h0 : xe = 0
 case neg =>
  have q0 : (xe != 0) = true := by simpa using h0
  by_cases h2 : xe = 2
  ·subst h2
   by_cases hx : xn = e0
   ·have hF : toOpenR y.S a f = ((0, 2), y.S) := by rw [HF.out, if_neg (fun e => e.2.1 hx), if_pos (by decide)]
    have hl := HEC.out hx
    have hl2 : xn.toList.isEmpty = true := by rw [hl]; rfl
    have HFF := Lib.hid hF
    clear hF hx HF
    go_wp2_with fail
    go_ret2
    exact HD0.out _ _ _ HFF.out HBB.out
   have hl : xn.toList ≠ [] := fun e => hx (by rw [Lib.toList_data] at e; exact ByteArray.ext (by have := congrArg List.toArray e; simpa [e0] using this))
   have hl2 : xn.toList.isEmpty = false := by cases hq : xn.toList with | nil => exact absurd hq hl | cons => rfl
   rw [if_pos ⟨rfl, hx, by trivial⟩, HPD.out] at HF
   clear hx
   cases dp with
   | true =>
    rw [if_pos rfl] at HF
    have d1 := HRC.out.two.2
    go_wp2_with fail
    go_ret2
    exact HD0.out _ _ _ HF.out HBB.out
   | false =>
    rw [if_neg (by decide)] at HF
    have HSC := Lib.hid (St.start HS.out HBB.out)
    have HSCd := Lib.hid (HSC.out.below (Below.refl wc.heap.size wc).drew)
    have HG6d := Lib.hid (HG6.out.below (Below.refl wc.heap.size wc).drew)
    have HGQ := Lib.hid (show w.heap.size ≤ G ∧ G < wc.heap.size from ⟨Nat.le_trans HB3.out.size HGL.out, HG6.out.lt⟩)
    have HMK := Lib.hid (show Calls Tryz.prog 128 #[Pq B, .int .i64 xa, .string xn, .int .i64 1, .string ⟨#[]⟩] wc.drew (StepE w0 wc.drew P B Q (fun b => X b ∨ (w.heap.size ≤ b ∧ b < wc.heap.size)) (.tuple #[.int .i64 (y.S.make xa xn 1 e0).1.1, .int .i64 (y.S.make xa xn 1 e0).1.2]) ⟨(y.S.make xa xn 1 e0).2, y.T⟩ room (T + 1)) from p_make HSCd.out.sy HT.out xa xn 1 e0 (by have := HSZ.out; omega) (by decide))
    unfold StepE at HMK
    have HDM := Lib.hid (show ∀ W, SyX w0 W P B Q X ⟨(y.S.make xa xn 1 e0).2, y.T⟩ room (T + 1) ∧ Keeps X w W → StepE w0 w P B Q X (.tuple #[.int .i64 (toOpenR y.S a f).1.1, .int .i64 (toOpenR y.S a f).1.2]) ⟨(toOpenR y.S a f).2, y.T⟩ room (T + 1) (.returned (.tuple #[.int .i64 (y.S.make xa xn 1 e0).1.1, .int .i64 (y.S.make xa xn 1 e0).1.2])) W from fun W hS => by
     rw [HF.out]
     exact ⟨rfl, hS.1, hS.2⟩)
    generalize (y.S.make xa xn 1 e0).1.1 = mi at *
    generalize (y.S.make xa xn 1 e0).1.2 = me at *
    have k0 := HSC.out.c0
    have d1 := HRC.out.two.2
    go_wp2_with fail
    go_region_held3 (fun w' => w'.cell? ⟨P, 0, none⟩ = some (Pq B) ∧ w'.cell? ⟨G, 0, none⟩ = some (.int .i64 xa) ∧ w'.cell? ⟨G, 1, none⟩ = some (.string xn))
     (first | exact ⟨k0, t0, t1⟩ | exact S8 | assumption | go_keep)
     (first | (go_at_call 128; ((with_reducible refine HMK.out.mono ?_); rintro _ w8 ⟨rfl, k1, k2⟩; have HK := Lib.hid (HSCd.out.move k1 k2).done; have HG8 := Lib.hid (HG6d.out.keep k2 HGQ.out.1 HGQ.out.2 k1); have S8 := And.intro k1.c0 (And.intro HG8.out.three.1 HG8.out.three.2.1); clear k1 k2)))
    all_goals
     go_wp2_with fail
     go_ret2
     exact HDM.out _ HK.out
  ·have q2 : (xe == 2) = false := by simpa using h2
   have HFF := Lib.hid (show toOpenR y.S a f = ((0, xe), y.S) by rw [HF.out, if_neg (fun e => h2 e.1), if_pos h0])
   clear h2 h0
   go_wp2_with fail
   go_ret2
   exact HD0.out _ _ _ HFF.out HBB.out
 subst h0
 rw [if_neg (fun e => by have := e.1; cases this), if_neg (fun e => e rfl)] at HF
 rw [if_neg (by decide)] at HF
 have HSC := Lib.hid (HS.out.below HBB.out)
 have HKI := Lib.hid (p_kind (HSC.out.below (Below.refl wc.heap.size wc).drew) xi)
 unfold RetI at HKI
 generalize y.S.kindOf xi = kk at *
 have k0 := HSC.out.c0
 by_cases hk2 : kk = 2
 ·subst hk2
  rw [if_pos rfl] at HF
  go_wp2_with fail
  go_region_held3 (fun w' => w'.cell? ⟨P, 0, none⟩ = some (Pq B) ∧ w'.cell? ⟨G, 2, none⟩ = some (.int .i64 xi))
   (first | exact ⟨k0, t2⟩ | exact ⟨k0', t2'⟩ | assumption | go_keep)
   (first | (go_at_call 132; ((with_reducible refine HKI.out.mono ?_); rintro _ w8 ⟨rfl, hb8⟩; have hb8' := ((Below.refl wc.heap.size wc).drew).trans hb8; have HB8 := Lib.hid (bel_step HBB.out hb8'); have k0' := (HS.out.below HB8.out).c0; have t2' := (HG6.out.below hb8').three.2.2)))
  all_goals
   go_wp2_with fail
   go_ret2
   exact HD0.out _ _ _ HF.out HB8.out
 rw [if_neg hk2] at HF
 have q2 : (kk == 2) = false := by simpa using hk2
 clear hk2
 by_cases hk3 : kk = 3
 ·subst hk3
  rw [if_pos rfl] at HF
  go_wp2_with fail
  go_region_held3 (fun w' => w'.cell? ⟨P, 0, none⟩ = some (Pq B) ∧ w'.cell? ⟨G, 2, none⟩ = some (.int .i64 xi))
   (first | exact ⟨k0, t2⟩ | exact ⟨k0', t2'⟩ | assumption | go_keep)
   (first | (go_at_call 132; ((with_reducible refine HKI.out.mono ?_); rintro _ w8 ⟨rfl, hb8⟩; have hb8' := ((Below.refl wc.heap.size wc).drew).trans hb8; have HB8 := Lib.hid (bel_step HBB.out hb8'); have k0' := (HS.out.below HB8.out).c0; have t2' := (HG6.out.below hb8').three.2.2)))
  all_goals
   go_wp2_with fail
   go_ret2
   exact HD0.out _ _ _ HF.out HB8.out
 rw [if_neg hk3] at HF
 have q3 : (kk == 3) = false := by simpa using hk3
 clear hk3
 go_wp2_with fail
 go_region_held3 (fun w' => w'.cell? ⟨P, 0, none⟩ = some (Pq B) ∧ w'.cell? ⟨G, 2, none⟩ = some (.int .i64 xi))
  (first | exact ⟨k0, t2⟩ | exact ⟨k0', t2'⟩ | assumption | go_keep)
  (first | (go_at_call 132; ((with_reducible refine HKI.out.mono ?_); rintro _ w8 ⟨rfl, hb8⟩; have hb8' := ((Below.refl wc.heap.size wc).drew).trans hb8; have HB8 := Lib.hid (bel_step HBB.out hb8'); have k0' := (HS.out.below HB8.out).c0; have t2' := (HG6.out.below hb8').three.2.2)))
 all_goals
  go_wp2_with fail
  go_ret2
  exact HD0.out _ _ _ HF.out HB8.out
theorem toOpen_tt {w0 w : World} {P B Q room T : Nat} {X : Nat → Prop} {y : Sy} (h : SyX w0 w P B Q X y room T) (hT : T ≤ 1000) (a : ByteArray) (f : Int) (hc2 : bit f 2 = true) (hc3 : bit f 3 = true) :
  Calls Tryz.prog 115 #[Pq P, .string a, .int .i64 f] w (StepE w0 w P B Q X (.tuple #[.int .i64 (toOpenR y.S a f).1.1, .int .i64 (toOpenR y.S a f).1.2]) ⟨(toOpenR y.S a f).2, y.T⟩ room (T + 1)) := by
 have HP := Lib.hid (pa.parse_any a w)
 unfold pa.ParseE at HP
 have HPE := Lib.hid (show pa.perr a.data.toList = wk.pe a from rfl)
 obtain ⟨ns, hns⟩ : ∃ ns, pa.pnames a.data.toList = ns := ⟨_, rfl⟩
 have HPN := Lib.hid (show wk.pn a = cb.nsB ns by rw [← hns]; rfl)
 have hnl : ns.length ≤ 40 := by rw [← hns]; exact pa.pnames_le _
 obtain ⟨dp, hdp⟩ : ∃ dp, pa.pdirE a.data.toList = dp := ⟨_, rfl⟩
 have HPD := Lib.hid (show wk.pd a = dp from hdp)
 obtain ⟨er, her⟩ : ∃ er, wk.pe a = er := ⟨_, rfl⟩
 have HER := Lib.hid her
 rw [hns, hdp, HPE.out, her] at HP
 obtain ⟨n, hn⟩ : ∃ n, ns.length = n := ⟨_, rfl⟩
 have HN := Lib.hid hn
 rw [hn] at HP hnl
 clear hns hdp her hn
 have HS := Lib.hid h
 have hb2 := bit_2 f
 have hb3 := bit_3 f
 rw [hc2] at hb2
 rw [hc3] at hb3
 have HWL := Lib.hid (show ∀ W, Below w.heap.size w W → ∀ (A : Option Addr) (c : Nat), n ≤ c → Strs W W.heap.size A ns → Calls Tryz.prog 161 #[.iface 26 (Pq B), .agg #[.slice A n c, .bool dp], .bool false] W (cb.TopE W (walkT (cb.trS y.S) false 40 1 (cb.nsB ns) dp)) from fun W hb A c hc hs => p_walk (h.below hb) dp false HN.out.symm (by omega) hc hs)
 have HD0 := Lib.hid (show ∀ W i e, toOpenR y.S a f = ((i, e), y.S) → Below w.heap.size w W → StepE w0 w P B Q X (.tuple #[.int .i64 (toOpenR y.S a f).1.1, .int .i64 (toOpenR y.S a f).1.2]) ⟨(toOpenR y.S a f).2, y.T⟩ room (T + 1) (.returned (.tuple #[.int .i64 i, .int .i64 e])) W from fun W i e he hb => by
  rw [he]; exact ⟨rfl, (h.below hb).up (by omega), h.keeps hb⟩)
 have HTR := Lib.hid (show ∀ R, lead y.S a false = R → toOpenR y.S a f = if R.2 = 2 ∧ R.1.2.1 ≠ e0 ∧ true = true then
   if pd a = true then ((0, 21), y.S) else (((y.S.make R.1.1 R.1.2.1 1 e0).1.1, (y.S.make R.1.1 R.1.2.1 1 e0).1.2), (y.S.make R.1.1 R.1.2.1 1 e0).2)
  else if R.2 ≠ 0 then ((0, R.2), y.S)
  else if (true && true) = true then ((0, 17), y.S)
  else if y.S.kindOf R.1.2.2 = 2 then ((0, 21), y.S) else if y.S.kindOf R.1.2.2 = 3 then ((0, 40), y.S) else ((R.1.2.2, 0), y.S) from fun R hR => by
  unfold toOpenR; dsimp only; rw [hc2, hc3]; rw [show (!(true && true)) = false from rfl, hR])
 have HT := Lib.hid hT
 have HSZ := Lib.hid (lead_sz y.S a false)
 clear hc2 hc3 hT
 by_cases he : er = 0
 case neg =>
  have HF := Lib.hid (show toOpenR y.S a f = ((0, er), y.S) by
   have hl : lead y.S a false = (r0, er) := by unfold lead; rw [HER.out, if_pos he]
   rw [HTR.out _ hl, if_neg (fun e => e.2.1 rfl), if_pos he])
  have qe : (er != 0) = true := by simpa using he
  clear he hb2 hb3
  go_enter Tryz.func115, Tryz.ntmps115
  go_wp2_with fail
  refine HP.out.mono ?_
  rintro _ w2 ⟨A1, c1, rfl, -, hb2⟩
  have HB2 := Lib.hid hb2
  clear hb2
  go_wp2_with fail
  go_ret2
  exact HD0.out _ _ _ HF.out (bel_step HB2.out (bel_alloc w2 _))
 subst he
 obtain ⟨R, hR⟩ : ∃ R, walkT (cb.trS y.S) false 40 1 (cb.nsB ns) dp = R := ⟨_, rfl⟩
 have HL := Lib.hid (show lead y.S a false = R by unfold lead; rw [HER.out, if_neg (wk.nn rfl), HPN.out, HPD.out]; exact hR)
 rw [hR] at HWL
 have HF := Lib.hid (HTR.out R HL.out)
 rw [HL.out] at HSZ
 clear hR HTR
 obtain ⟨⟨xa, xn, xi⟩, xe⟩ := R
 unfold cb.TopE cb.FoundV at HWL
 dsimp only at HWL HF HSZ
 go_enter Tryz.func115, Tryz.ntmps115
 go_wp2_with fail
 refine HP.out.mono ?_
 rintro _ w2 ⟨A1, c1, rfl, hown, hb2w⟩
 obtain ⟨w3, hw3⟩ : ∃ w3, w2.alloc (.cells #[.slice A1 n c1, .bool dp] 149) = w3 := ⟨_, rfl⟩
 obtain ⟨g, hg⟩ : ∃ g, w2.heap.size = g := ⟨_, rfl⟩
 have hb23 : Below w2.heap.size w2 w3 := by rw [← hw3]; exact bel_alloc w2 _
 have HB3 := Lib.hid (bel_step hb2w hb23)
 have HRG := Lib.hid (show Rw w3 g [.slice A1 n c1, .bool dp] by rw [← hw3, ← hg]; exact Rw.new w2 [.slice A1 n c1, .bool dp] 149)
 have hcap := cb.own_le hown
 rw [HN.out] at hcap
 have HST := Lib.hid (show Strs w3 w3.heap.size A1 ns from fun hn => by
  obtain ⟨ad, e, h1, h2⟩ := hown.strs hn
  exact ⟨ad, e, Nat.lt_of_lt_of_le h1 hb23.size, fun j x hx => (hb23.cell (p := ad.add j) (by rw [pa.addr_block]; exact h1)).trans (h2 j x hx)⟩)
 have HSF := Lib.hid (show ∀ W, Below w3.heap.size w3 W → W.cell? ⟨P, 0, none⟩ = some (Pq B) ∧ W.cell? ⟨g, 0, none⟩ = some (.slice A1 n c1) ∧ W.cell? ⟨g, 1, none⟩ = some (.bool dp) from fun W hb => ⟨(HS.out.below (bel_step HB3.out hb)).c0, (HRG.out.below hb).two⟩)
 have HKK := Lib.hid (show ∀ W, Below w3.heap.size w3 W → Calls Tryz.prog 161 #[.iface 26 (Pq B), .agg #[.slice A1 n c1, .bool dp], .bool false] W (fun e w' => e = .returned (.tuple #[.agg #[.int .i64 xa, .string xn, .int .i64 xi], .int .i64 xe]) ∧ Below W.heap.size W w') from fun W hb => HWL.out W (bel_step HB3.out hb) A1 c1 hcap (fun hn => by
  obtain ⟨ad, e, h1, h2⟩ := HST.out hn
  exact ⟨ad, e, Nat.lt_of_lt_of_le h1 hb.size, fun j x hx => (hb.cell (p := ad.add j) (by rw [pa.addr_block]; exact h1)).trans (h2 j x hx)⟩))
 clear hown hb2w hb23 HWL HP
 go_upto_region 6 with fail
 go_cut [12, 9] from 13 to 85 (fun va vb wx => ∃ G, va = .pointer (some ⟨G, 0, none⟩) ∧ vb = .int .i64 xe ∧ Hid (Below w3.heap.size w3 wx) ∧ Hid (Rw wx G [.int .i64 xa, .string xn, .int .i64 xi]) ∧ Hid (w3.heap.size ≤ G))
 case first =>
  have HAB := Lib.hid (fun ob => bel_alloc w3 ob)
  have HZ := Lib.hid (Rw.new w3 [.int .i64 0, .string ⟨#[]⟩, .int .i64 0] 212)
  have S0 := HSF.out w3 (Below.refl _ _)
  have SA := HSF.out _ (HAB.out (.cells #[.int .i64 0, .string ⟨#[]⟩, .int .i64 0] 212))
  go_region_held3 (fun w' => w'.cell? ⟨P, 0, none⟩ = some (Pq B) ∧ w'.cell? ⟨g, 0, none⟩ = some (.slice A1 n c1) ∧ w'.cell? ⟨g, 1, none⟩ = some (.bool dp))
   (first | exact S0 | exact S5 | exact SA | exact ST | assumption | go_keep)
   (first | (go_at_call 161; ((with_reducible refine (HKK.out _ (Below.refl w3.heap.size w3).drew).mono ?_); rintro _ w5 ⟨rfl, hb5⟩; have hb5' := ((Below.refl w3.heap.size w3).drew).trans hb5; have S5 := HSF.out w5 hb5'; have HFE := Lib.hid (show ∃ G, w5.heap.size = G ∧ Below w3.heap.size w3 (w5.alloc (.cells #[.int .i64 xa, .string xn, .int .i64 xi] 212)) ∧ Rw (w5.alloc (.cells #[.int .i64 xa, .string xn, .int .i64 xi] 212)) G [.int .i64 xa, .string xn, .int .i64 xi] ∧ w3.heap.size ≤ G from ⟨_, rfl, bel_step hb5' (bel_alloc w5 _), Rw.new w5 [.int .i64 xa, .string xn, .int .i64 xi] 212, hb5'.size⟩))) | (go_at_call 161; ((with_reducible refine (HKK.out _ (HAB.out (.cells #[.int .i64 0, .string ⟨#[]⟩, .int .i64 0] 212)).drew).mono ?_); rintro _ w5 ⟨rfl, hb5⟩; have hb5' := ((Below.refl (w3.alloc (.cells #[.int .i64 0, .string ⟨#[]⟩, .int .i64 0] 212)).heap.size (w3.alloc (.cells #[.int .i64 0, .string ⟨#[]⟩, .int .i64 0] 212))).drew).trans hb5; have hb5w := bel_step (HAB.out _) hb5'; have S5 := HSF.out w5 hb5w; have HR5 := Lib.hid (HZ.out.below hb5'); obtain ⟨x0, x1, x2⟩ := HR5.out.three; obtain ⟨y0, y1, y2, y3, y4, y5⟩ := HR5.out.z6; have HFG := Lib.hid (set3 (w0 := w3) HR5.out hb5w (Nat.le_refl _) (.int .i64 xa) (.string xn) (.int .i64 xi)); have ST := HSF.out _ HFG.out.2)))
  all_goals
   go_wp2_with fail
   go_meet
   case rel => first | exact ⟨_, rfl, rfl, Lib.hid HFG.out.2, Lib.hid HFG.out.1, Lib.hid (Nat.le_refl _)⟩ | (obtain ⟨G, hG, h1, h2, h3⟩ := HFE.out; subst hG; exact ⟨_, rfl, rfl, Lib.hid h1, Lib.hid h2, Lib.hid h3⟩)
 case rest =>
 obtain ⟨G, rfl, rfl, HB6, HG6, HGL⟩ := hcut
 have HBB := Lib.hid (bel_step HB3.out HB6.out)
 obtain ⟨t0, t1, t2⟩ := HG6.out.three
 have HRC := Lib.hid (HRG.out.below HB6.out)
 have HEC := Lib.hid (fun (e : xn = e0) => (show xn.toList = [] by rw [e, Lib.toList_data]; rfl))
 by_cases h0 : xe = 0
 case neg =>
  have q0 : (xe != 0) = true := by simpa using h0
  by_cases h2 : xe = 2
  ·subst h2
   by_cases hx : xn = e0
   ·have hF : toOpenR y.S a f = ((0, 2), y.S) := by rw [HF.out, if_neg (fun e => e.2.1 hx), if_pos (by decide)]
    have hl := HEC.out hx
    have hl2 : xn.toList.isEmpty = true := by rw [hl]; rfl
    have HFF := Lib.hid hF
    clear hF hx HF
    go_wp2_with fail
    go_ret2
    exact HD0.out _ _ _ HFF.out HBB.out
   have hl : xn.toList ≠ [] := fun e => hx (by rw [Lib.toList_data] at e; exact ByteArray.ext (by have := congrArg List.toArray e; simpa [e0] using this))
   have hl2 : xn.toList.isEmpty = false := by cases hq : xn.toList with | nil => exact absurd hq hl | cons => rfl
   rw [if_pos ⟨rfl, hx, by trivial⟩, HPD.out] at HF
   clear hx
   cases dp with
   | true =>
    rw [if_pos rfl] at HF
    have d1 := HRC.out.two.2
    go_wp2_with fail
    go_ret2
    exact HD0.out _ _ _ HF.out HBB.out
   | false =>
    rw [if_neg (by decide)] at HF
    have HSC := Lib.hid (St.start HS.out HBB.out)
    have HSCd := Lib.hid (HSC.out.below (Below.refl wc.heap.size wc).drew)
    have HG6d := Lib.hid (HG6.out.below (Below.refl wc.heap.size wc).drew)
    have HGQ := Lib.hid (show w.heap.size ≤ G ∧ G < wc.heap.size from ⟨Nat.le_trans HB3.out.size HGL.out, HG6.out.lt⟩)
    have HMK := Lib.hid (show Calls Tryz.prog 128 #[Pq B, .int .i64 xa, .string xn, .int .i64 1, .string ⟨#[]⟩] wc.drew (StepE w0 wc.drew P B Q (fun b => X b ∨ (w.heap.size ≤ b ∧ b < wc.heap.size)) (.tuple #[.int .i64 (y.S.make xa xn 1 e0).1.1, .int .i64 (y.S.make xa xn 1 e0).1.2]) ⟨(y.S.make xa xn 1 e0).2, y.T⟩ room (T + 1)) from p_make HSCd.out.sy HT.out xa xn 1 e0 (by have := HSZ.out; omega) (by decide))
    unfold StepE at HMK
    have HDM := Lib.hid (show ∀ W, SyX w0 W P B Q X ⟨(y.S.make xa xn 1 e0).2, y.T⟩ room (T + 1) ∧ Keeps X w W → StepE w0 w P B Q X (.tuple #[.int .i64 (toOpenR y.S a f).1.1, .int .i64 (toOpenR y.S a f).1.2]) ⟨(toOpenR y.S a f).2, y.T⟩ room (T + 1) (.returned (.tuple #[.int .i64 (y.S.make xa xn 1 e0).1.1, .int .i64 (y.S.make xa xn 1 e0).1.2])) W from fun W hS => by
     rw [HF.out]
     exact ⟨rfl, hS.1, hS.2⟩)
    generalize (y.S.make xa xn 1 e0).1.1 = mi at *
    generalize (y.S.make xa xn 1 e0).1.2 = me at *
    have k0 := HSC.out.c0
    have d1 := HRC.out.two.2
    go_wp2_with fail
    go_region_held3 (fun w' => w'.cell? ⟨P, 0, none⟩ = some (Pq B) ∧ w'.cell? ⟨G, 0, none⟩ = some (.int .i64 xa) ∧ w'.cell? ⟨G, 1, none⟩ = some (.string xn))
     (first | exact ⟨k0, t0, t1⟩ | exact S8 | assumption | go_keep)
     (first | (go_at_call 128; ((with_reducible refine HMK.out.mono ?_); rintro _ w8 ⟨rfl, k1, k2⟩; have HK := Lib.hid (HSCd.out.move k1 k2).done; have HG8 := Lib.hid (HG6d.out.keep k2 HGQ.out.1 HGQ.out.2 k1); have S8 := And.intro k1.c0 (And.intro HG8.out.three.1 HG8.out.three.2.1); clear k1 k2)))
    all_goals
     go_wp2_with fail
     go_ret2
     exact HDM.out _ HK.out
  ·have q2 : (xe == 2) = false := by simpa using h2
   have HFF := Lib.hid (show toOpenR y.S a f = ((0, xe), y.S) by rw [HF.out, if_neg (fun e => h2 e.1), if_pos h0])
   clear h2 h0
   go_wp2_with fail
   go_ret2
   exact HD0.out _ _ _ HFF.out HBB.out
 subst h0
 rw [if_neg (fun e => by have := e.1; cases this), if_neg (fun e => e rfl)] at HF
 rw [if_pos (show (true && true) = true from rfl)] at HF
 go_wp2_with fail
 go_ret2
 exact HD0.out _ _ _ HF.out HBB.out
theorem toOpen_no {xc : Bool} {w0 w : World} {P B Q room T : Nat} {X : Nat → Prop} {y : Sy} (h : SyX w0 w P B Q X y room T) (hT : T ≤ 1000) (a : ByteArray) (f : Int) (hc2 : bit f 2 = false) (hc3 : bit f 3 = xc) :
  Calls Tryz.prog 115 #[Pq P, .string a, .int .i64 f] w (StepE w0 w P B Q X (.tuple #[.int .i64 (toOpenR y.S a f).1.1, .int .i64 (toOpenR y.S a f).1.2]) ⟨(toOpenR y.S a f).2, y.T⟩ room (T + 1)) := by
 have HP := Lib.hid (pa.parse_any a w)
 unfold pa.ParseE at HP
 have HPE := Lib.hid (show pa.perr a.data.toList = wk.pe a from rfl)
 obtain ⟨ns, hns⟩ : ∃ ns, pa.pnames a.data.toList = ns := ⟨_, rfl⟩
 have HPN := Lib.hid (show wk.pn a = cb.nsB ns by rw [← hns]; rfl)
 have hnl : ns.length ≤ 40 := by rw [← hns]; exact pa.pnames_le _
 obtain ⟨dp, hdp⟩ : ∃ dp, pa.pdirE a.data.toList = dp := ⟨_, rfl⟩
 have HPD := Lib.hid (show wk.pd a = dp from hdp)
 obtain ⟨er, her⟩ : ∃ er, wk.pe a = er := ⟨_, rfl⟩
 have HER := Lib.hid her
 rw [hns, hdp, HPE.out, her] at HP
 obtain ⟨n, hn⟩ : ∃ n, ns.length = n := ⟨_, rfl⟩
 have HN := Lib.hid hn
 rw [hn] at HP hnl
 clear hns hdp her hn
 have HS := Lib.hid h
 have hb2 := bit_2 f
 have hb3 := bit_3 f
 rw [hc2] at hb2
 rw [hc3] at hb3
 have HWL := Lib.hid (show ∀ W, Below w.heap.size w W → ∀ (A : Option Addr) (c : Nat), n ≤ c → Strs W W.heap.size A ns → Calls Tryz.prog 161 #[.iface 26 (Pq B), .agg #[.slice A n c, .bool dp], .bool true] W (cb.TopE W (walkT (cb.trS y.S) true 40 1 (cb.nsB ns) dp)) from fun W hb A c hc hs => p_walk (h.below hb) dp true HN.out.symm (by omega) hc hs)
 have HD0 := Lib.hid (show ∀ W i e, toOpenR y.S a f = ((i, e), y.S) → Below w.heap.size w W → StepE w0 w P B Q X (.tuple #[.int .i64 (toOpenR y.S a f).1.1, .int .i64 (toOpenR y.S a f).1.2]) ⟨(toOpenR y.S a f).2, y.T⟩ room (T + 1) (.returned (.tuple #[.int .i64 i, .int .i64 e])) W from fun W i e he hb => by
  rw [he]; exact ⟨rfl, (h.below hb).up (by omega), h.keeps hb⟩)
 have HTR := Lib.hid (show ∀ R, lead y.S a true = R → toOpenR y.S a f = if R.2 = 2 ∧ R.1.2.1 ≠ e0 ∧ false = true then
   if pd a = true then ((0, 21), y.S) else (((y.S.make R.1.1 R.1.2.1 1 e0).1.1, (y.S.make R.1.1 R.1.2.1 1 e0).1.2), (y.S.make R.1.1 R.1.2.1 1 e0).2)
  else if R.2 ≠ 0 then ((0, R.2), y.S)
  else if (false && xc) = true then ((0, 17), y.S)
  else if y.S.kindOf R.1.2.2 = 2 then ((0, 21), y.S) else if y.S.kindOf R.1.2.2 = 3 then ((0, 40), y.S) else ((R.1.2.2, 0), y.S) from fun R hR => by
  unfold toOpenR; dsimp only; rw [hc2, hc3]; rw [show (!(false && xc)) = true from rfl, hR])
 have HT := Lib.hid hT
 have HSZ := Lib.hid (lead_sz y.S a true)
 clear hc2 hc3 hT
 by_cases he : er = 0
 case neg =>
  have HF := Lib.hid (show toOpenR y.S a f = ((0, er), y.S) by
   have hl : lead y.S a true = (r0, er) := by unfold lead; rw [HER.out, if_pos he]
   rw [HTR.out _ hl, if_neg (fun e => e.2.1 rfl), if_pos he])
  have qe : (er != 0) = true := by simpa using he
  clear he hb2 hb3
  go_enter Tryz.func115, Tryz.ntmps115
  go_wp2_with fail
  refine HP.out.mono ?_
  rintro _ w2 ⟨A1, c1, rfl, -, hb2⟩
  have HB2 := Lib.hid hb2
  clear hb2
  go_wp2_with fail
  go_ret2
  exact HD0.out _ _ _ HF.out (bel_step HB2.out (bel_alloc w2 _))
 subst he
 obtain ⟨R, hR⟩ : ∃ R, walkT (cb.trS y.S) true 40 1 (cb.nsB ns) dp = R := ⟨_, rfl⟩
 have HL := Lib.hid (show lead y.S a true = R by unfold lead; rw [HER.out, if_neg (wk.nn rfl), HPN.out, HPD.out]; exact hR)
 rw [hR] at HWL
 have HF := Lib.hid (HTR.out R HL.out)
 rw [HL.out] at HSZ
 clear hR HTR
 obtain ⟨⟨xa, xn, xi⟩, xe⟩ := R
 unfold cb.TopE cb.FoundV at HWL
 dsimp only at HWL HF HSZ
 go_enter Tryz.func115, Tryz.ntmps115
 go_wp2_with fail
 refine HP.out.mono ?_
 rintro _ w2 ⟨A1, c1, rfl, hown, hb2w⟩
 obtain ⟨w3, hw3⟩ : ∃ w3, w2.alloc (.cells #[.slice A1 n c1, .bool dp] 149) = w3 := ⟨_, rfl⟩
 obtain ⟨g, hg⟩ : ∃ g, w2.heap.size = g := ⟨_, rfl⟩
 have hb23 : Below w2.heap.size w2 w3 := by rw [← hw3]; exact bel_alloc w2 _
 have HB3 := Lib.hid (bel_step hb2w hb23)
 have HRG := Lib.hid (show Rw w3 g [.slice A1 n c1, .bool dp] by rw [← hw3, ← hg]; exact Rw.new w2 [.slice A1 n c1, .bool dp] 149)
 have hcap := cb.own_le hown
 rw [HN.out] at hcap
 have HST := Lib.hid (show Strs w3 w3.heap.size A1 ns from fun hn => by
  obtain ⟨ad, e, h1, h2⟩ := hown.strs hn
  exact ⟨ad, e, Nat.lt_of_lt_of_le h1 hb23.size, fun j x hx => (hb23.cell (p := ad.add j) (by rw [pa.addr_block]; exact h1)).trans (h2 j x hx)⟩)
 have HSF := Lib.hid (show ∀ W, Below w3.heap.size w3 W → W.cell? ⟨P, 0, none⟩ = some (Pq B) ∧ W.cell? ⟨g, 0, none⟩ = some (.slice A1 n c1) ∧ W.cell? ⟨g, 1, none⟩ = some (.bool dp) from fun W hb => ⟨(HS.out.below (bel_step HB3.out hb)).c0, (HRG.out.below hb).two⟩)
 have HKK := Lib.hid (show ∀ W, Below w3.heap.size w3 W → Calls Tryz.prog 161 #[.iface 26 (Pq B), .agg #[.slice A1 n c1, .bool dp], .bool true] W (fun e w' => e = .returned (.tuple #[.agg #[.int .i64 xa, .string xn, .int .i64 xi], .int .i64 xe]) ∧ Below W.heap.size W w') from fun W hb => HWL.out W (bel_step HB3.out hb) A1 c1 hcap (fun hn => by
  obtain ⟨ad, e, h1, h2⟩ := HST.out hn
  exact ⟨ad, e, Nat.lt_of_lt_of_le h1 hb.size, fun j x hx => (hb.cell (p := ad.add j) (by rw [pa.addr_block]; exact h1)).trans (h2 j x hx)⟩))
 clear hown hb2w hb23 HWL HP
 go_upto_region 6 with fail
 go_cut [12, 9] from 13 to 85 (fun va vb wx => ∃ G, va = .pointer (some ⟨G, 0, none⟩) ∧ vb = .int .i64 xe ∧ Hid (Below w3.heap.size w3 wx) ∧ Hid (Rw wx G [.int .i64 xa, .string xn, .int .i64 xi]) ∧ Hid (w3.heap.size ≤ G))
 case first =>
  have HAB := Lib.hid (fun ob => bel_alloc w3 ob)
  have HZ := Lib.hid (Rw.new w3 [.int .i64 0, .string ⟨#[]⟩, .int .i64 0] 212)
  have S0 := HSF.out w3 (Below.refl _ _)
  have SA := HSF.out _ (HAB.out (.cells #[.int .i64 0, .string ⟨#[]⟩, .int .i64 0] 212))
  go_region_held3 (fun w' => w'.cell? ⟨P, 0, none⟩ = some (Pq B) ∧ w'.cell? ⟨g, 0, none⟩ = some (.slice A1 n c1) ∧ w'.cell? ⟨g, 1, none⟩ = some (.bool dp))
   (first | exact S0 | exact S5 | exact SA | exact ST | assumption | go_keep)
   (first | (go_at_call 161; ((with_reducible refine (HKK.out _ (Below.refl w3.heap.size w3).drew).mono ?_); rintro _ w5 ⟨rfl, hb5⟩; have hb5' := ((Below.refl w3.heap.size w3).drew).trans hb5; have S5 := HSF.out w5 hb5'; have HFE := Lib.hid (show ∃ G, w5.heap.size = G ∧ Below w3.heap.size w3 (w5.alloc (.cells #[.int .i64 xa, .string xn, .int .i64 xi] 212)) ∧ Rw (w5.alloc (.cells #[.int .i64 xa, .string xn, .int .i64 xi] 212)) G [.int .i64 xa, .string xn, .int .i64 xi] ∧ w3.heap.size ≤ G from ⟨_, rfl, bel_step hb5' (bel_alloc w5 _), Rw.new w5 [.int .i64 xa, .string xn, .int .i64 xi] 212, hb5'.size⟩))) | (go_at_call 161; ((with_reducible refine (HKK.out _ (HAB.out (.cells #[.int .i64 0, .string ⟨#[]⟩, .int .i64 0] 212)).drew).mono ?_); rintro _ w5 ⟨rfl, hb5⟩; have hb5' := ((Below.refl (w3.alloc (.cells #[.int .i64 0, .string ⟨#[]⟩, .int .i64 0] 212)).heap.size (w3.alloc (.cells #[.int .i64 0, .string ⟨#[]⟩, .int .i64 0] 212))).drew).trans hb5; have hb5w := bel_step (HAB.out _) hb5'; have S5 := HSF.out w5 hb5w; have HR5 := Lib.hid (HZ.out.below hb5'); obtain ⟨x0, x1, x2⟩ := HR5.out.three; obtain ⟨y0, y1, y2, y3, y4, y5⟩ := HR5.out.z6; have HFG := Lib.hid (set3 (w0 := w3) HR5.out hb5w (Nat.le_refl _) (.int .i64 xa) (.string xn) (.int .i64 xi)); have ST := HSF.out _ HFG.out.2)))
  all_goals
   go_wp2_with fail
   go_meet
   case rel => first | exact ⟨_, rfl, rfl, Lib.hid HFG.out.2, Lib.hid HFG.out.1, Lib.hid (Nat.le_refl _)⟩ | (obtain ⟨G, hG, h1, h2, h3⟩ := HFE.out; subst hG; exact ⟨_, rfl, rfl, Lib.hid h1, Lib.hid h2, Lib.hid h3⟩)
 case rest =>
 obtain ⟨G, rfl, rfl, HB6, HG6, HGL⟩ := hcut
 have HBB := Lib.hid (bel_step HB3.out HB6.out)
 obtain ⟨t0, t1, t2⟩ := HG6.out.three
 have HRC := Lib.hid (HRG.out.below HB6.out)
 have HEC := Lib.hid (fun (e : xn = e0) => (show xn.toList = [] by rw [e, Lib.toList_data]; rfl))
 by_cases h0 : xe = 0
 case neg =>
  have q0 : (xe != 0) = true := by simpa using h0
  have HFF := Lib.hid (show toOpenR y.S a f = ((0, xe), y.S) by rw [HF.out, if_neg (fun e => by cases e.2.2), if_pos h0])
  by_cases h2 : xe = 2
  ·subst h2
   by_cases hx : xn.toList = []
   ·have hl2 : xn.toList.isEmpty = true := by rw [hx]; rfl
    clear h0
    go_wp2_with fail
    go_ret2
    exact HD0.out _ _ _ HFF.out HBB.out
   ·have hl2 : xn.toList.isEmpty = false := by cases hq : xn.toList with | nil => exact absurd hq hx | cons => rfl
    clear h0
    go_wp2_with fail
    go_ret2
    exact HD0.out _ _ _ HFF.out HBB.out
  ·have q2 : (xe == 2) = false := by simpa using h2
   clear h2 h0
   go_wp2_with fail
   go_ret2
   exact HD0.out _ _ _ HFF.out HBB.out
 subst h0
 rw [if_neg (fun e => by have := e.1; cases this), if_neg (fun e => e rfl)] at HF
 rw [if_neg (by simp)] at HF
 have HSC := Lib.hid (HS.out.below HBB.out)
 have HKI := Lib.hid (p_kind (HSC.out.below (Below.refl wc.heap.size wc).drew) xi)
 unfold RetI at HKI
 generalize y.S.kindOf xi = kk at *
 have k0 := HSC.out.c0
 by_cases hk2 : kk = 2
 ·subst hk2
  rw [if_pos rfl] at HF
  go_wp2_with fail
  go_region_held3 (fun w' => w'.cell? ⟨P, 0, none⟩ = some (Pq B) ∧ w'.cell? ⟨G, 2, none⟩ = some (.int .i64 xi))
   (first | exact ⟨k0, t2⟩ | exact ⟨k0', t2'⟩ | assumption | go_keep)
   (first | (go_at_call 132; ((with_reducible refine HKI.out.mono ?_); rintro _ w8 ⟨rfl, hb8⟩; have hb8' := ((Below.refl wc.heap.size wc).drew).trans hb8; have HB8 := Lib.hid (bel_step HBB.out hb8'); have k0' := (HS.out.below HB8.out).c0; have t2' := (HG6.out.below hb8').three.2.2)))
  all_goals
   go_wp2_with fail
   go_ret2
   exact HD0.out _ _ _ HF.out HB8.out
 rw [if_neg hk2] at HF
 have q2 : (kk == 2) = false := by simpa using hk2
 clear hk2
 by_cases hk3 : kk = 3
 ·subst hk3
  rw [if_pos rfl] at HF
  go_wp2_with fail
  go_region_held3 (fun w' => w'.cell? ⟨P, 0, none⟩ = some (Pq B) ∧ w'.cell? ⟨G, 2, none⟩ = some (.int .i64 xi))
   (first | exact ⟨k0, t2⟩ | exact ⟨k0', t2'⟩ | assumption | go_keep)
   (first | (go_at_call 132; ((with_reducible refine HKI.out.mono ?_); rintro _ w8 ⟨rfl, hb8⟩; have hb8' := ((Below.refl wc.heap.size wc).drew).trans hb8; have HB8 := Lib.hid (bel_step HBB.out hb8'); have k0' := (HS.out.below HB8.out).c0; have t2' := (HG6.out.below hb8').three.2.2)))
  all_goals
   go_wp2_with fail
   go_ret2
   exact HD0.out _ _ _ HF.out HB8.out
 rw [if_neg hk3] at HF
 have q3 : (kk == 3) = false := by simpa using hk3
 clear hk3
 go_wp2_with fail
 go_region_held3 (fun w' => w'.cell? ⟨P, 0, none⟩ = some (Pq B) ∧ w'.cell? ⟨G, 2, none⟩ = some (.int .i64 xi))
  (first | exact ⟨k0, t2⟩ | exact ⟨k0', t2'⟩ | assumption | go_keep)
  (first | (go_at_call 132; ((with_reducible refine HKI.out.mono ?_); rintro _ w8 ⟨rfl, hb8⟩; have hb8' := ((Below.refl wc.heap.size wc).drew).trans hb8; have HB8 := Lib.hid (bel_step HBB.out hb8'); have k0' := (HS.out.below HB8.out).c0; have t2' := (HG6.out.below hb8').three.2.2)))
 all_goals
  go_wp2_with fail
  go_ret2
  exact HD0.out _ _ _ HF.out HB8.out
theorem toOpen_any {w0 w : World} {P B Q room T : Nat} {X : Nat → Prop} {y : Sy} (h : SyX w0 w P B Q X y room T) (hT : T ≤ 1000) (a : ByteArray) (f : Int) :
  Calls Tryz.prog 115 #[Pq P, .string a, .int .i64 f] w (StepE w0 w P B Q X (.tuple #[.int .i64 (toOpenR y.S a f).1.1, .int .i64 (toOpenR y.S a f).1.2]) ⟨(toOpenR y.S a f).2, y.T⟩ room (T + 1)) := by
 cases h2 : bit f 2 <;> cases h3 : bit f 3
 ·exact toOpen_no h hT a f h2 h3
 ·exact toOpen_no h hT a f h2 h3
 ·exact toOpen_tf h hT a f h2 h3
 ·exact toOpen_tt h hT a f h2 h3
end Go.Proofs.YtpmpbmjjlccbbaaGreat.tr
