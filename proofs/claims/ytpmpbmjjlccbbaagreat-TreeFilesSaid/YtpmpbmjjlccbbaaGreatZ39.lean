/- Part 39 of what is known of the program's functions and of the document's words: contracts, and the mathematics beneath them. -/
import Derived.Test.YtpmpbmjjlccbbaaGreatProg
import Derived.Test.YtpmpbmjjlccbbaaGreatZ38
import Derived.Test.YtpmpbmjjlccbbaaGreatZ23
set_option linter.unusedVariables false
set_option linter.unusedSimpArgs false
set_option maxRecDepth 100000
set_option maxHeartbeats 8000000
namespace Go.Proofs.YtpmpbmjjlccbbaaGreat.tr
open Go.RowKit
open br (BS Inv Ino)
open cb (BrX RetW RetI)
open bl (Pq)
open wk (walkT pe pn pd e0 r0)
open ds (De Tb DA DV DL GetE StE IntsE lowV openT getV errV setT closeT full allT)
open pa (Bs Sv Strs Own own_form info9 own_base)
def findR (S : BS) (a : ByteArray) (fol : Bool) : Int × Int := if (lead S a fol).2 = 0 then ((lead S a fol).1.2.2, 0) else (0, (lead S a fol).2)
theorem ret2 {a b c d : Int} (h1 : a = c) (h2 : b = d) : Ending.returned (.tuple #[.int .i64 a, .int .i64 b]) = .returned (.tuple #[.int .i64 c, .int .i64 d]) := by rw [h1, h2]
theorem find_any {w0 w : World} {P B Q room T : Nat} {X : Nat → Prop} {y : Sy} (h : SyX w0 w P B Q X y room T) (a : ByteArray) (fol : Bool) :
  Calls Tryz.prog 125 #[Pq P, .string a, .bool fol] w (RetW w (.tuple #[.int .i64 (findR y.S a fol).1, .int .i64 (findR y.S a fol).2])) := by
 have HP := Lib.hid (pa.parse_any a w)
 unfold pa.ParseE at HP
 have HPE := Lib.hid (show pa.perr a.data.toList = wk.pe a from rfl)
 obtain ⟨ns, hns⟩ : ∃ ns, pa.pnames a.data.toList = ns := ⟨_, rfl⟩
 have HPN := Lib.hid (show wk.pn a = cb.nsB ns by rw [← hns]; rfl)
 have hnl : ns.length ≤ 40 := by rw [← hns]; exact pa.pnames_le _
 obtain ⟨dp, hdp⟩ : ∃ dp, pa.pdirE a.data.toList = dp := ⟨_, rfl⟩
 have HPD := Lib.hid (show wk.pd a = dp from hdp)
 obtain ⟨er, her⟩ : ∃ er, wk.pe a = er := ⟨_, rfl⟩
 have HER := Lib.hid her
 rw [hns, hdp, HPE.out, her] at HP
 obtain ⟨n, hn⟩ : ∃ n, ns.length = n := ⟨_, rfl⟩
 have HN := Lib.hid hn
 rw [hn] at HP hnl
 clear hns hdp her hn
 have HS := Lib.hid h
 have HWL := Lib.hid (show ∀ W, Below w.heap.size w W → ∀ (A : Option Addr) (c : Nat), n ≤ c → Strs W W.heap.size A ns → Calls Tryz.prog 161 #[.iface 26 (Pq B), .agg #[.slice A n c, .bool dp], .bool fol] W (cb.TopE W (walkT (cb.trS y.S) fol 40 1 (cb.nsB ns) dp)) from fun W hb A c hc hs => p_walk (h.below hb) dp fol HN.out.symm (by omega) hc hs)
 clear h
 unfold RetW
 by_cases he : er = 0
 case neg =>
  have HF := Lib.hid (show findR y.S a fol = (0, er) by
   have hl : lead y.S a fol = (r0, er) := by unfold lead; rw [HER.out, if_pos he]
   unfold findR; rw [hl, if_neg he])
  have qe : (er != 0) = true := by simpa using he
  clear he
  go_enter Tryz.func125, Tryz.ntmps125
  go_wp2_with fail
  refine HP.out.mono ?_
  rintro _ w2 ⟨A1, c1, rfl, -, hb2⟩
  have HB2 := Lib.hid hb2
  clear hb2
  go_wp2_with fail
  go_ret2
  exact ⟨ret2 (by rw [HF.out]) (by rw [HF.out]), bel_step HB2.out (bel_alloc w2 _)⟩
 subst he
 obtain ⟨R, hR⟩ : ∃ R, walkT (cb.trS y.S) fol 40 1 (cb.nsB ns) dp = R := ⟨_, rfl⟩
 have HL := Lib.hid (show lead y.S a fol = R by unfold lead; rw [HER.out, if_neg (wk.nn rfl), HPN.out, HPD.out]; exact hR)
 rw [hR] at HWL
 clear hR
 have HF := Lib.hid (show findR y.S a fol = if R.2 = 0 then (R.1.2.2, 0) else (0, R.2) by unfold findR; rw [HL.out])
 clear HL
 obtain ⟨⟨xa, xn, xi⟩, xe⟩ := R
 unfold cb.TopE cb.FoundV at HWL
 dsimp only at HWL HF
 go_enter Tryz.func125, Tryz.ntmps125
 go_wp2_with fail
 refine HP.out.mono ?_
 rintro _ w2 ⟨A1, c1, rfl, hown, hb2⟩
 obtain ⟨w3, hw3⟩ : ∃ w3, w2.alloc (.cells #[.slice A1 n c1, .bool dp] 149) = w3 := ⟨_, rfl⟩
 obtain ⟨g, hg⟩ : ∃ g, w2.heap.size = g := ⟨_, rfl⟩
 have hb23 : Below w2.heap.size w2 w3 := by rw [← hw3]; exact bel_alloc w2 _
 have HB3 := Lib.hid (bel_step hb2 hb23)
 have HRG := Lib.hid (show Rw w3 g [.slice A1 n c1, .bool dp] by rw [← hw3, ← hg]; exact Rw.new w2 [.slice A1 n c1, .bool dp] 149)
 have hcap := cb.own_le hown
 rw [HN.out] at hcap
 have HST := Lib.hid (show Strs w3 w3.heap.size A1 ns from fun hn => by
  obtain ⟨ad, e, h1, h2⟩ := hown.strs hn
  exact ⟨ad, e, Nat.lt_of_lt_of_le h1 hb23.size, fun j x hx => (hb23.cell (p := ad.add j) (by rw [pa.addr_block]; exact h1)).trans (h2 j x hx)⟩)
 have HSF := Lib.hid (show ∀ W, Below w3.heap.size w3 W → W.cell? ⟨P, 0, none⟩ = some (Pq B) ∧ W.cell? ⟨g, 0, none⟩ = some (.slice A1 n c1) ∧ W.cell? ⟨g, 1, none⟩ = some (.bool dp) from fun W hb => ⟨(HS.out.below (bel_step HB3.out hb)).c0, (HRG.out.below hb).two⟩)
 have HKK := Lib.hid (show ∀ W, Below w3.heap.size w3 W → Calls Tryz.prog 161 #[.iface 26 (Pq B), .agg #[.slice A1 n c1, .bool dp], .bool fol] W (fun e w' => e = .returned (.tuple #[.agg #[.int .i64 xa, .string xn, .int .i64 xi], .int .i64 xe]) ∧ Below W.heap.size W w') from fun W hb => HWL.out W (bel_step HB3.out hb) A1 c1 hcap (fun hn => by
  obtain ⟨ad, e, h1, h2⟩ := HST.out hn
  exact ⟨ad, e, Nat.lt_of_lt_of_le h1 hb.size, fun j x hx => (hb.cell (p := ad.add j) (by rw [pa.addr_block]; exact h1)).trans (h2 j x hx)⟩))
 clear hown hb2 hb23 HWL HP
 go_upto_region 4 with fail
 go_cut [10, 9] from 11 to 35 (fun va vb wx => ∃ G, va = .pointer (some ⟨G, 0, none⟩) ∧ vb = .int .i64 xe ∧ Hid (Below w3.heap.size w3 wx) ∧ Hid (Rw wx G [.int .i64 xa, .string xn, .int .i64 xi]) ∧ Hid (w3.heap.size ≤ G))
 case first =>
  have HAB := Lib.hid (fun ob => bel_alloc w3 ob)
  have HZ := Lib.hid (Rw.new w3 [.int .i64 0, .string ⟨#[]⟩, .int .i64 0] 212)
  have S0 := HSF.out w3 (Below.refl _ _)
  have SA := HSF.out _ (HAB.out (.cells #[.int .i64 0, .string ⟨#[]⟩, .int .i64 0] 212))
  go_region_held3 (fun w' => w'.cell? ⟨P, 0, none⟩ = some (Pq B) ∧ w'.cell? ⟨g, 0, none⟩ = some (.slice A1 n c1) ∧ w'.cell? ⟨g, 1, none⟩ = some (.bool dp))
   (first | exact S0 | exact S5 | exact SA | exact ST | assumption | go_keep)
   (first | (go_at_call 161; ((with_reducible refine (HKK.out _ (Below.refl w3.heap.size w3).drew).mono ?_); rintro _ w5 ⟨rfl, hb5⟩; have hb5' := ((Below.refl w3.heap.size w3).drew).trans hb5; have S5 := HSF.out w5 hb5'; have HFE := Lib.hid (show ∃ G, w5.heap.size = G ∧ Below w3.heap.size w3 (w5.alloc (.cells #[.int .i64 xa, .string xn, .int .i64 xi] 212)) ∧ Rw (w5.alloc (.cells #[.int .i64 xa, .string xn, .int .i64 xi] 212)) G [.int .i64 xa, .string xn, .int .i64 xi] ∧ w3.heap.size ≤ G from ⟨_, rfl, bel_step hb5' (bel_alloc w5 _), Rw.new w5 [.int .i64 xa, .string xn, .int .i64 xi] 212, hb5'.size⟩))) | (go_at_call 161; ((with_reducible refine (HKK.out _ (HAB.out (.cells #[.int .i64 0, .string ⟨#[]⟩, .int .i64 0] 212)).drew).mono ?_); rintro _ w5 ⟨rfl, hb5⟩; have hb5' := ((Below.refl (w3.alloc (.cells #[.int .i64 0, .string ⟨#[]⟩, .int .i64 0] 212)).heap.size (w3.alloc (.cells #[.int .i64 0, .string ⟨#[]⟩, .int .i64 0] 212))).drew).trans hb5; have hb5w := bel_step (HAB.out _) hb5'; have S5 := HSF.out w5 hb5w; have HR5 := Lib.hid (HZ.out.below hb5'); obtain ⟨x0, x1, x2⟩ := HR5.out.three; obtain ⟨y0, y1, y2, y3, y4, y5⟩ := HR5.out.z6; have HFG := Lib.hid (set3 (w0 := w3) HR5.out hb5w (Nat.le_refl _) (.int .i64 xa) (.string xn) (.int .i64 xi)); have ST := HSF.out _ HFG.out.2)))
  all_goals
   go_wp2_with fail
   go_meet
   case rel => first | exact ⟨_, rfl, rfl, Lib.hid HFG.out.2, Lib.hid HFG.out.1, Lib.hid (Nat.le_refl _)⟩ | (obtain ⟨G, hG, h1, h2, h3⟩ := HFE.out; subst hG; exact ⟨_, rfl, rfl, Lib.hid h1, Lib.hid h2, Lib.hid h3⟩)
 case rest =>
 obtain ⟨G, rfl, rfl, HB6, HG6, HGL⟩ := hcut
 have HBB := Lib.hid (bel_step HB3.out HB6.out)
 obtain ⟨t0, t1, t2⟩ := HG6.out.three
 by_cases h0 : xe = 0
 ·subst h0
  go_wp2_with fail
  go_ret2
  exact ⟨ret2 (by rw [HF.out]; rfl) (by rw [HF.out]; rfl), HBB.out⟩
 ·have q0 : (xe != 0) = true := by simpa using h0
  rw [if_neg h0] at HF
  clear h0
  go_wp2_with fail
  go_ret2
  exact ⟨ret2 (by rw [HF.out]) (by rw [HF.out]), HBB.out⟩
end Go.Proofs.YtpmpbmjjlccbbaaGreat.tr
namespace Go.Proofs.YtpmpbmjjlccbbaaGreat.tr
open Go.RowKit
open br (BS Inv Ino)
open cb (BrX RetW RetI)
open bl (Pq)
open wk (walkT pe pn pd e0 r0 dot1 dot2)
open ds (De Tb DA DV DL GetE StE IntsE lowV openT getV errV setT closeT full allT)
open pa (Bs Sv Strs Own own_form info9 own_base)
abbrev PlA (i : Int) (n : ByteArray) (d : Bool) (e : Int) : Value := .tuple #[.agg #[.int .i64 i, .string n, .bool d], .int .i64 e]
def placeV (S : BS) (a : ByteArray) (busy : Int) : Value := if placeE S a busy = 0 then PlA (placeD S a) (placeN a) (pd a) 0 else PlA 0 ⟨#[]⟩ false (placeE S a busy)
theorem last_no {ns : List Bs} (h : pa.lastNo ns = true) : cb.nsB ns = [] ∨ (cb.nsB ns).getLast?.getD e0 = dot1 ∨ (cb.nsB ns).getLast?.getD e0 = dot2 := by
 rcases List.eq_nil_or_concat ns with rfl | ⟨ys, x, rfl⟩
 ·exact .inl rfl
 ·rw [List.concat_eq_append] at h ⊢
  right
  have e : (cb.nsB (ys ++ [x])).getLast?.getD e0 = ⟨x.toArray⟩ := by unfold cb.nsB; simp
  have hd : pa.dotB x = true := by simpa [pa.lastNo] using h
  rw [e]
  unfold pa.dotB at hd
  simp only [Bool.or_eq_true, beq_iff_eq] at hd
  rcases hd with rfl | rfl
  ·exact .inl rfl
  ·exact .inr rfl
theorem last_one {ys : List Bs} {x : Bs} (hd : pa.dotB x = false) : ¬ (cb.nsB (ys ++ [x]) = [] ∨ (cb.nsB (ys ++ [x])).getLast?.getD e0 = dot1 ∨ (cb.nsB (ys ++ [x])).getLast?.getD e0 = dot2) ∧ (cb.nsB (ys ++ [x])).getLast?.getD e0 = ⟨x.toArray⟩ ∧ (cb.nsB (ys ++ [x])).dropLast = cb.nsB ys := by
 have e : (cb.nsB (ys ++ [x])).getLast?.getD e0 = ⟨x.toArray⟩ := by unfold cb.nsB; simp
 refine ⟨?_, e, by unfold cb.nsB; simp⟩
 rw [e]
 unfold pa.dotB at hd
 simp only [Bool.or_eq_false_iff, beq_eq_false_iff_ne] at hd
 rintro (h | h | h)
 ·unfold cb.nsB at h; simp at h
 ·exact hd.1 (by have := congrArg (fun b => b.data.toList) h; simpa [dot1] using this)
 ·exact hd.2 (by have := congrArg (fun b => b.data.toList) h; simpa [dot2] using this)
theorem place_any {w0 w : World} {P B Q room T : Nat} {X : Nat → Prop} {y : Sy} (h : SyX w0 w P B Q X y room T) (a : ByteArray) (busy : Int) (hb0 : busy ≠ 0) :
  Calls Tryz.prog 127 #[Pq P, .string a, .int .i64 busy] w (RetW w (placeV y.S a busy)) := by
 obtain ⟨b, hb⟩ : ∃ b, w.heap.size = b := ⟨_, rfl⟩
 obtain ⟨w1, hw1⟩ : ∃ w1, w.alloc (.cells #[.int .i64 0, .string ⟨#[]⟩, .bool false] 189) = w1 := ⟨_, rfl⟩
 have hb1 : Below w.heap.size w w1 := by rw [← hw1]; exact bel_alloc w _
 have HR1 := Lib.hid (show Rw w1 b [.int .i64 0, .string ⟨#[]⟩, .bool false] by rw [← hw1, ← hb]; exact Rw.new w _ 189)
 have HLB := Lib.hid (show w.heap.size ≤ b by omega)
 have HP := Lib.hid (pa.parse_any a w1)
 unfold pa.ParseE at HP
 have HPE := Lib.hid (show pa.perr a.data.toList = wk.pe a from rfl)
 obtain ⟨ns, hns⟩ : ∃ ns, pa.pnames a.data.toList = ns := ⟨_, rfl⟩
 have HPN := Lib.hid (show wk.pn a = cb.nsB ns by rw [← hns]; rfl)
 have hnl : ns.length ≤ 40 := by rw [← hns]; exact pa.pnames_le _
 obtain ⟨dp, hdp⟩ : ∃ dp, pa.pdirE a.data.toList = dp := ⟨_, rfl⟩
 have HPD := Lib.hid (show wk.pd a = dp from hdp)
 obtain ⟨er, her⟩ : ∃ er, wk.pe a = er := ⟨_, rfl⟩
 have HER := Lib.hid her
 rw [hns, hdp, HPE.out, her] at HP
 obtain ⟨n, hn⟩ : ∃ n, ns.length = n := ⟨_, rfl⟩
 have HN := Lib.hid hn
 rw [hn] at HP hnl
 clear hns hdp her hn
 have HS := Lib.hid h
 have HB1 := Lib.hid hb1
 have HWL := Lib.hid (show ∀ W, Below w.heap.size w W → ∀ (A : Option Addr) (m c : Nat) (ys : List Bs), m = ys.length → m ≤ 400 → m ≤ c → Strs W W.heap.size A ys → Calls Tryz.prog 161 #[.iface 26 (Pq B), .agg #[.slice A m c, .bool true], .bool true] W (cb.TopE W (walkT (cb.trS y.S) true 40 1 (cb.nsB ys) true)) from fun W hb A m c ys hm hl hc hs => p_walk (h.below hb) true true hm hl hc hs)
 have HKI := Lib.hid (show ∀ W i, Below w.heap.size w W → Calls Tryz.prog 132 #[Pq B, .int .i64 i] W (RetI W (y.S.kindOf i)) from fun W i hb => p_kind (h.below hb) i)
 clear h hb1
 unfold RetI at HKI
 unfold RetW
 by_cases he : er = 0
 case neg =>
  have HF := Lib.hid (show placeV y.S a busy = PlA 0 ⟨#[]⟩ false er by
   have hl : placeE y.S a busy = er := by unfold placeE; rw [HER.out, if_pos he]
   unfold placeV; rw [hl, if_neg he])
  have qe : (er != 0) = true := by simpa using he
  clear he HKI HWL
  go_enter Tryz.func127, Tryz.ntmps127
  go_wp2_with fail
  refine HP.out.mono ?_
  rintro _ w2 ⟨A1, c1, rfl, -, hb2⟩
  have HB3 := Lib.hid (fun ob => bel_step hb2 (bel_alloc w2 ob))
  have HR3 := Lib.hid (fun ob => HR1.out.below (HB3.out ob))
  have x0 := fun ob => (HR3.out ob).three.1
  have x1 := fun ob => (HR3.out ob).three.2.1
  have x2 := fun ob => (HR3.out ob).three.2.2
  have y0 := fun ob => (HR3.out ob).z 0
  have y1 := fun ob => (HR3.out ob).z 1
  have y2 := fun ob => (HR3.out ob).z 2
  clear hb2
  go_wp2_with fail
  obtain ⟨hx, hy⟩ := set3 (w0 := w) (HR3.out _) (bel_step HB1.out (HB3.out _)) HLB.out (.int .i64 0) (.string ⟨#[]⟩) (.bool false)
  refine bodyPost_ret (results_cell2 rfl _ _ b _ _ rfl hx.range Tryz.underlying189 (by rfl) (by rfl)) rfl ?_
  exact ⟨by rw [HF.out]; rfl, hy⟩
 subst he
 have HPN2 := Lib.hid (show pn a = cb.nsB ns from HPN.out)
 have HE0 := Lib.hid (show ¬ (pe a ≠ 0) by rw [HER.out]; exact fun e => e rfl)
 have hnl4 : n ≤ 65536 := by omega
 have HLA := Lib.hid (show ∀ (W : World) (A : Option Addr) (c : Nat), n ≤ c → Strs W W.heap.size A ns → (pa.lastNo ns = true ∧ Calls Tryz.prog 170 #[.agg #[.slice A n c, .bool dp]] W (pa.LastNo W)) ∨ ∃ ys x, ns = ys ++ [x] ∧ pa.dotB x = false ∧ Calls Tryz.prog 170 #[.agg #[.slice A n c, .bool dp]] W (pa.LastYes W ys x) from fun W A c hc hs => pa.last_any A n c W.heap.size dp ns W HN.out.symm hnl4 hc (Nat.le_refl _) hs)
 go_enter Tryz.func127, Tryz.ntmps127
 go_wp2_with fail
 refine HP.out.mono ?_
 rintro _ w2 ⟨A1, c1, rfl, hown, hb2⟩
 obtain ⟨w3, hw3⟩ : ∃ w3, w2.alloc (.cells #[.slice A1 n c1, .bool dp] 149) = w3 := ⟨_, rfl⟩
 obtain ⟨g, hg⟩ : ∃ g, w2.heap.size = g := ⟨_, rfl⟩
 have hb23 : Below w2.heap.size w2 w3 := by rw [← hw3]; exact bel_alloc w2 _
 have HB3 := Lib.hid (bel_step HB1.out (bel_step hb2 hb23))
 have HR3 := Lib.hid (HR1.out.below (bel_step hb2 hb23))
 have HRG := Lib.hid (show Rw w3 g [.slice A1 n c1, .bool dp] by rw [← hw3, ← hg]; exact Rw.new w2 [.slice A1 n c1, .bool dp] 149)
 have hcap := cb.own_le hown
 rw [HN.out] at hcap
 have hst : Strs w3 w3.heap.size A1 ns := fun hn => by
  obtain ⟨ad, e, h1, h2⟩ := hown.strs hn
  exact ⟨ad, e, Nat.lt_of_lt_of_le h1 hb23.size, fun j x hx => (hb23.cell (p := ad.add j) (by rw [pa.addr_block]; exact h1)).trans (h2 j x hx)⟩
 have hla := HLA.out w3 A1 c1 hcap hst
 obtain ⟨p0, p1⟩ := HRG.out.two
 clear hown hb2 hb23 HP hst HLA
 rcases hla with ⟨hln, hcl⟩ | ⟨ys, x, hxs, hdx, hcl⟩
 ·have HF := Lib.hid (show placeV y.S a busy = PlA 0 ⟨#[]⟩ false busy by
   have hl : placeE y.S a busy = busy := by
    unfold placeE placeN; rw [if_neg HE0.out, HPN2.out, if_pos (last_no hln)]
   unfold placeV; rw [hl, if_neg hb0])
  have HCL := Lib.hid hcl
  unfold pa.LastNo at HCL
  clear hln hcl HKI HWL
  go_wp2_with fail
  refine HCL.out.mono ?_
  rintro _ w4 ⟨rfl, hb4⟩
  have HB5 := Lib.hid (fun ob => bel_step hb4 (bel_alloc w4 ob))
  have HR5 := Lib.hid (fun ob => HR3.out.below (HB5.out ob))
  have x0 := fun ob => (HR5.out ob).three.1
  have x1 := fun ob => (HR5.out ob).three.2.1
  have x2 := fun ob => (HR5.out ob).three.2.2
  have y0 := fun ob => (HR5.out ob).z 0
  have y1 := fun ob => (HR5.out ob).z 1
  have y2 := fun ob => (HR5.out ob).z 2
  clear hb4
  go_wp2_with fail
  obtain ⟨hx, hy⟩ := set3 (w0 := w) (HR5.out _) (bel_step HB3.out (HB5.out _)) HLB.out (.int .i64 0) (.string ⟨#[]⟩) (.bool false)
  refine bodyPost_ret (results_cell2 rfl _ _ b _ _ rfl hx.range Tryz.underlying189 (by rfl) (by rfl)) rfl ?_
  exact ⟨by rw [HF.out]; rfl, hy⟩
 obtain ⟨o1, o2, o3⟩ := last_one (ys := ys) hdx
 have HCL := Lib.hid hcl
 unfold pa.LastYes at HCL
 obtain ⟨m, hm⟩ : ∃ m, ys.length = m := ⟨_, rfl⟩
 have HM := Lib.hid hm
 rw [hm] at HCL
 have hml : m ≤ 400 := by have := HN.out; rw [hxs, List.length_append, List.length_singleton] at this; omega
 obtain ⟨XN, hXN⟩ : ∃ XN : ByteArray, (⟨x.toArray⟩ : ByteArray) = XN := ⟨_, rfl⟩
 have hsv : Sv x = .string XN := by rw [← hXN]
 rw [hsv] at HCL
 obtain ⟨R, hR⟩ : ∃ R, walkT (cb.trS y.S) true 40 1 (cb.nsB ys) true = R := ⟨_, rfl⟩
 have HUP := Lib.hid (show upR y.S a = R by unfold upR; rw [HPN2.out, hxs, o3]; exact hR)
 have HPE0 := Lib.hid (show placeE y.S a busy = if R.2 ≠ 0 then R.2 else if y.S.kindOf R.1.2.2 ≠ 2 then 20 else 0 by
  unfold placeE; rw [if_neg HE0.out]; unfold placeN; rw [HPN2.out, hxs, if_neg o1, HUP.out])
 have HPNm := Lib.hid (show placeN a = XN by unfold placeN; rw [HPN2.out, hxs, o2, hXN])
 have HWL2 := Lib.hid (fun W (hb : Below w.heap.size w W) A c hc hs => HWL.out W hb A m c ys hm.symm hml hc hs)
 rw [hR] at HWL2
 clear hxs hdx hcl o1 o2 o3 hm hsv hXN hR HWL
 obtain ⟨⟨xa, xn, xi⟩, xe⟩ := R
 unfold cb.TopE cb.FoundV at HWL2
 dsimp only at HWL2 HPE0 HUP
 go_wp2_with fail
 refine HCL.out.mono ?_
 rintro _ w4 ⟨A2, c2, rfl, hown2, hb4⟩
 obtain ⟨w6, hw6⟩ : ∃ w6, w4.alloc (.cells #[.slice A2 m c2, .bool true] 149) = w6 := ⟨_, rfl⟩
 obtain ⟨g2, hg2⟩ : ∃ g2, w4.heap.size = g2 := ⟨_, rfl⟩
 have hb46 : Below w4.heap.size w4 w6 := by rw [← hw6]; exact bel_alloc w4 _
 have hb36 := bel_step hb4 hb46
 have HB3' := Lib.hid (bel_step HB3.out hb36)
 have HR6 := Lib.hid (HR3.out.below hb36)
 have HRG6 := Lib.hid (HRG.out.below hb36)
 have HRH := Lib.hid (show Rw w6 g2 [.slice A2 m c2, .bool true] by rw [← hw6, ← hg2]; exact Rw.new w4 [.slice A2 m c2, .bool true] 149)
 have hcap2 := cb.own_le hown2
 rw [HM.out] at hcap2
 have HST := Lib.hid (show Strs w6 w6.heap.size A2 ys from fun hn => by
  obtain ⟨ad, e, h1, h2⟩ := hown2.strs hn
  exact ⟨ad, e, Nat.lt_of_lt_of_le h1 hb46.size, fun j x hx => (hb46.cell (p := ad.add j) (by rw [pa.addr_block]; exact h1)).trans (h2 j x hx)⟩)
 have HSF := Lib.hid (show ∀ W, Below w6.heap.size w6 W → W.cell? ⟨P, 0, none⟩ = some (Pq B) ∧ W.cell? ⟨g2, 0, none⟩ = some (.slice A2 m c2) ∧ W.cell? ⟨g2, 1, none⟩ = some (.bool true) from fun W hb => ⟨(HS.out.below (bel_step HB3'.out hb)).c0, (HRH.out.below hb).two⟩)
 have HKK := Lib.hid (show ∀ W, Below w6.heap.size w6 W → Calls Tryz.prog 161 #[.iface 26 (Pq B), .agg #[.slice A2 m c2, .bool true], .bool true] W (fun e w' => e = .returned (.tuple #[.agg #[.int .i64 xa, .string xn, .int .i64 xi], .int .i64 xe]) ∧ Below W.heap.size W w') from fun W hb => HWL2.out W (bel_step HB3'.out hb) A2 c2 hcap2 (fun hn => by
  obtain ⟨ad, e, h1, h2⟩ := HST.out hn
  exact ⟨ad, e, Nat.lt_of_lt_of_le h1 hb.size, fun j x hx => (hb.cell (p := ad.add j) (by rw [pa.addr_block]; exact h1)).trans (h2 j x hx)⟩))
 clear hown2 hb4 hb46 hb36 HWL2 HCL p0 p1
 go_upto_region 7 with fail
 go_cut [12, 9] from 13 to 63 (fun va vb wx => ∃ G, va = .pointer (some ⟨G, 0, none⟩) ∧ vb = .int .i64 xe ∧ Hid (Below w6.heap.size w6 wx) ∧ Hid (Rw wx G [.int .i64 xa, .string xn, .int .i64 xi]) ∧ Hid (w6.heap.size ≤ G))
 case first =>
  have HAB := Lib.hid (fun ob => bel_alloc w6 ob)
  have HZ := Lib.hid (Rw.new w6 [.int .i64 0, .string ⟨#[]⟩, .int .i64 0] 212)
  have S0 := HSF.out w6 (Below.refl _ _)
  have SA := HSF.out _ (HAB.out (.cells #[.int .i64 0, .string ⟨#[]⟩, .int .i64 0] 212))
  go_region_held3 (fun w' => w'.cell? ⟨P, 0, none⟩ = some (Pq B) ∧ w'.cell? ⟨g2, 0, none⟩ = some (.slice A2 m c2) ∧ w'.cell? ⟨g2, 1, none⟩ = some (.bool true))
   (first | exact S0 | exact S5 | exact SA | exact ST | assumption | go_keep)
   (first | (go_at_call 161; ((with_reducible refine (HKK.out _ (Below.refl w6.heap.size w6).drew).mono ?_); rintro _ w5 ⟨rfl, hb5⟩; have hb5' := ((Below.refl w6.heap.size w6).drew).trans hb5; have S5 := HSF.out w5 hb5'; have HFE := Lib.hid (show ∃ G, w5.heap.size = G ∧ Below w6.heap.size w6 (w5.alloc (.cells #[.int .i64 xa, .string xn, .int .i64 xi] 212)) ∧ Rw (w5.alloc (.cells #[.int .i64 xa, .string xn, .int .i64 xi] 212)) G [.int .i64 xa, .string xn, .int .i64 xi] ∧ w6.heap.size ≤ G from ⟨_, rfl, bel_step hb5' (bel_alloc w5 _), Rw.new w5 [.int .i64 xa, .string xn, .int .i64 xi] 212, hb5'.size⟩))) | (go_at_call 161; ((with_reducible refine (HKK.out _ (HAB.out (.cells #[.int .i64 0, .string ⟨#[]⟩, .int .i64 0] 212)).drew).mono ?_); rintro _ w5 ⟨rfl, hb5⟩; have hb5' := ((Below.refl (w6.alloc (.cells #[.int .i64 0, .string ⟨#[]⟩, .int .i64 0] 212)).heap.size (w6.alloc (.cells #[.int .i64 0, .string ⟨#[]⟩, .int .i64 0] 212))).drew).trans hb5; have hb5w := bel_step (HAB.out _) hb5'; have S5 := HSF.out w5 hb5w; have HR5 := Lib.hid (HZ.out.below hb5'); obtain ⟨x0, x1, x2⟩ := HR5.out.three; obtain ⟨y0, y1, y2, y3, y4, y5⟩ := HR5.out.z6; have HFG := Lib.hid (set3 (w0 := w6) HR5.out hb5w (Nat.le_refl _) (.int .i64 xa) (.string xn) (.int .i64 xi)); have ST := HSF.out _ HFG.out.2)))
  all_goals
   go_wp2_with fail
   go_meet
   case rel => first | exact ⟨_, rfl, rfl, Lib.hid HFG.out.2, Lib.hid HFG.out.1, Lib.hid (Nat.le_refl _)⟩ | (obtain ⟨G, hG, h1, h2, h3⟩ := HFE.out; subst hG; exact ⟨_, rfl, rfl, Lib.hid h1, Lib.hid h2, Lib.hid h3⟩)
 case rest =>
 obtain ⟨G, rfl, rfl, HB6, HG6, HGL⟩ := hcut
 have HBB := Lib.hid (bel_step HB3'.out HB6.out)
 obtain ⟨t0, t1, t2⟩ := HG6.out.three
 have HRC := Lib.hid (HR6.out.below HB6.out)
 have HRGC := Lib.hid (HRG6.out.below HB6.out)
 by_cases h0 : xe = 0
 case neg =>
  have q0 : (xe != 0) = true := by simpa using h0
  have HF := Lib.hid (show placeV y.S a busy = PlA 0 ⟨#[]⟩ false xe by unfold placeV; rw [HPE0.out, if_pos h0, if_neg h0])
  obtain ⟨x0, x1, x2⟩ := HRC.out.three
  obtain ⟨y0, y1, y2, -, -, -⟩ := HRC.out.z6
  clear h0
  go_wp2_with fail
  obtain ⟨hx, hy⟩ := set3 (w0 := w) HRC.out HBB.out HLB.out (.int .i64 0) (.string ⟨#[]⟩) (.bool false)
  refine bodyPost_ret (results_cell2 rfl _ _ b _ _ rfl hx.range Tryz.underlying189 (by rfl) (by rfl)) rfl ?_
  exact ⟨by rw [HF.out]; rfl, hy⟩
 subst h0
 rw [if_neg (fun e => e rfl)] at HPE0
 obtain ⟨kk, hkk⟩ : ∃ kk, y.S.kindOf xi = kk := ⟨_, rfl⟩
 have HK2 := Lib.hid (fun W hb => HKI.out W xi hb)
 rw [hkk] at HK2 HPE0
 have HKD := Lib.hid (show placeD y.S a = xi by unfold placeD; rw [HUP.out])
 have k0 := (HS.out.below HBB.out).c0
 have lG := HG6.out.lt
 clear hkk
 by_cases hk : kk = 2
 case neg =>
  have q0 : (kk != 2) = true := by simpa using hk
  have HF := Lib.hid (show placeV y.S a busy = PlA 0 ⟨#[]⟩ false 20 by unfold placeV; rw [HPE0.out, if_pos hk, if_neg (by decide)])
  clear hk
  go_wp2_with fail
  go_region_held3 (fun w' => w'.cell? ⟨P, 0, none⟩ = some (Pq B) ∧ w'.cell? ⟨G, 2, none⟩ = some (.int .i64 xi))
   (first | exact ⟨k0, t2⟩ | exact ⟨k0', t2'⟩ | assumption | go_keep)
   (first | (go_at_call 132; ((with_reducible refine (HK2.out _ HBB.out.drew).mono ?_); rintro _ w8 ⟨rfl, hb8⟩; have hb8' := ((Below.refl wc.heap.size wc).drew).trans hb8; have k0' := (HS.out.below (bel_step HBB.out hb8')).c0; have t2' := (HG6.out.below hb8').three.2.2; have HR8 := Lib.hid (HRC.out.below hb8'); have HB8 := Lib.hid (bel_step HBB.out hb8'))))
  all_goals
   obtain ⟨x0, x1, x2⟩ := HR8.out.three
   obtain ⟨y0, y1, y2, -, -, -⟩ := HR8.out.z6
   go_wp2_with fail
   obtain ⟨hx, hy⟩ := set3 (w0 := w) HR8.out HB8.out HLB.out (.int .i64 0) (.string ⟨#[]⟩) (.bool false)
   refine bodyPost_ret (results_cell2 rfl _ _ b _ _ rfl hx.range Tryz.underlying189 (by rfl) (by rfl)) rfl ?_
   exact ⟨by rw [HF.out]; rfl, hy⟩
 subst hk
 have HF := Lib.hid (show placeV y.S a busy = PlA xi XN dp 0 by unfold placeV; rw [HPE0.out, show (if (2 : Int) ≠ 2 then (20 : Int) else 0) = 0 from by decide, if_pos rfl, HKD.out, HPNm.out, HPD.out])
 go_wp2_with fail
 go_region_held3 (fun w' => w'.cell? ⟨P, 0, none⟩ = some (Pq B) ∧ w'.cell? ⟨G, 2, none⟩ = some (.int .i64 xi))
  (first | exact ⟨k0, t2⟩ | exact ⟨k0', t2'⟩ | assumption | go_keep)
  (first | (go_at_call 132; ((with_reducible refine (HK2.out _ HBB.out.drew).mono ?_); rintro _ w8 ⟨rfl, hb8⟩; have hb8' := ((Below.refl wc.heap.size wc).drew).trans hb8; have k0' := (HS.out.below (bel_step HBB.out hb8')).c0; have t2' := (HG6.out.below hb8').three.2.2; have HR8 := Lib.hid (HRC.out.below hb8'); have HB8 := Lib.hid (bel_step HBB.out hb8'); have HD8 := Lib.hid (HRGC.out.below hb8'))))
 all_goals
  obtain ⟨x0, x1, x2⟩ := HR8.out.three
  obtain ⟨y0, y1, y2, -, -, -⟩ := HR8.out.z6
  have d1 := HD8.out.two.2
  go_wp2_with fail
  obtain ⟨hx, hy⟩ := set3 (w0 := w) HR8.out HB8.out HLB.out (.int .i64 xi) (.string XN) (.bool dp)
  refine bodyPost_ret (results_cell2 rfl _ _ b _ _ rfl hx.range Tryz.underlying189 (by rfl) (by rfl)) rfl ?_
  exact ⟨by rw [HF.out]; rfl, hy⟩
end Go.Proofs.YtpmpbmjjlccbbaaGreat.tr
