/- Part 40 of what is known of the program's functions and of the document's words: contracts, and the mathematics beneath them. -/
import Derived.Test.YtpmpbmjjlccbbaaGreatProg
import Derived.Test.YtpmpbmjjlccbbaaGreatZ39
import Derived.Lib.ConvBytes
import Derived.StillTailTactics
set_option linter.unusedVariables false
set_option linter.unusedSimpArgs false
set_option maxRecDepth 100000
set_option maxHeartbeats 8000000
namespace Go.Proofs.YtpmpbmjjlccbbaaGreat.tr
open Go.RowKit
open br (BS Inv Ino)
open cb (BrX RetW RetI)
open bl (Pq)
open wk (walkT pe pn pd e0 r0 dot1 dot2)
open ds (De Tb DA DV DL GetE StE IntsE lowV openT getV errV setT closeT full allT dz)
open pa (Bs Sv Strs Own own_form info9 own_base)
def newV (S : BS) (a : ByteArray) : Value := if placeE S a 17 ≠ 0 then PlA 0 ⟨#[]⟩ false (placeE S a 17) else if pd a = true then PlA 0 ⟨#[]⟩ false 2 else PlA (placeD S a) (placeN a) false 0
theorem newPlace_any {w0 w : World} {P B Q room T : Nat} {X : Nat → Prop} {y : Sy} (h : SyX w0 w P B Q X y room T) (a : ByteArray) :
  Calls Tryz.prog 133 #[Pq P, .string a] w (RetW w (newV y.S a)) := by
 obtain ⟨b, hb⟩ : ∃ b, w.heap.size = b := ⟨_, rfl⟩
 obtain ⟨w1, hw1⟩ : ∃ w1, w.alloc (.cells #[.int .i64 0, .string ⟨#[]⟩, .bool false] 189) = w1 := ⟨_, rfl⟩
 have hb1 : Below w.heap.size w w1 := by rw [← hw1]; exact bel_alloc w _
 have HR1 := Lib.hid (show Rw w1 b [.int .i64 0, .string ⟨#[]⟩, .bool false] by rw [← hw1, ← hb]; exact Rw.new w _ 189)
 have HLB := Lib.hid (show w.heap.size ≤ b by omega)
 have HB1 := Lib.hid hb1
 have HC := Lib.hid (place_any (h.below hb1) a 17 (by decide))
 clear h hb1
 unfold RetW at HC ⊢
 by_cases he : placeE y.S a 17 = 0
 case neg =>
  have HF := Lib.hid (show newV y.S a = PlA 0 ⟨#[]⟩ false (placeE y.S a 17) by unfold newV; rw [if_pos he])
  rw [show placeV y.S a 17 = PlA 0 ⟨#[]⟩ false (placeE y.S a 17) by unfold placeV; rw [if_neg he]] at HC
  have qe : (placeE y.S a 17 != 0) = true := by simpa using he
  generalize placeE y.S a 17 = er at *
  clear he
  go_enter Tryz.func133, Tryz.ntmps133
  go_wp2_with fail
  refine HC.out.mono ?_
  rintro _ w2 ⟨rfl, hb2⟩
  have HB3 := Lib.hid (fun ob => bel_step hb2 (bel_alloc w2 ob))
  have HR3 := Lib.hid (fun ob => HR1.out.below (HB3.out ob))
  have x0 := fun ob => (HR3.out ob).three.1
  have x1 := fun ob => (HR3.out ob).three.2.1
  have x2 := fun ob => (HR3.out ob).three.2.2
  have y0 := fun ob => (HR3.out ob).z 0
  have y1 := fun ob => (HR3.out ob).z 1
  have y2 := fun ob => (HR3.out ob).z 2
  clear hb2
  go_wp2_with fail
  obtain ⟨hx, hy⟩ := set3 (w0 := w) (HR3.out _) (bel_step HB1.out (HB3.out _)) HLB.out (.int .i64 0) (.string ⟨#[]⟩) (.bool false)
  refine bodyPost_ret (results_cell2 rfl _ _ b _ _ rfl hx.range Tryz.underlying189 (by rfl) (by rfl)) rfl ?_
  exact ⟨by first | (rw [HF.out]; done) | (rw [HF.out]; rfl), hy⟩
 rw [show placeV y.S a 17 = PlA (placeD y.S a) (placeN a) (pd a) 0 by unfold placeV; rw [if_pos he]] at HC
 have HE := Lib.hid (show ¬ (placeE y.S a 17 ≠ 0) from fun e => e he)
 obtain ⟨pp, hpp⟩ : ∃ pp, pd a = pp := ⟨_, rfl⟩
 have HPP := Lib.hid hpp
 rw [hpp] at HC
 clear he hpp
 cases pp with
 | true =>
  have HF := Lib.hid (show newV y.S a = PlA 0 ⟨#[]⟩ false 2 by unfold newV; rw [if_neg HE.out, if_pos HPP.out])
  generalize placeD y.S a = dd at *
  generalize placeN a = nn at *
  go_enter Tryz.func133, Tryz.ntmps133
  go_wp2_with fail
  refine HC.out.mono ?_
  rintro _ w2 ⟨rfl, hb2⟩
  have HB3 := Lib.hid (fun ob => bel_step hb2 (bel_alloc w2 ob))
  have HR3 := Lib.hid (fun ob => HR1.out.below (HB3.out ob))
  have x0 := fun ob => (HR3.out ob).three.1
  have x1 := fun ob => (HR3.out ob).three.2.1
  have x2 := fun ob => (HR3.out ob).three.2.2
  have y0 := fun ob => (HR3.out ob).z 0
  have y1 := fun ob => (HR3.out ob).z 1
  have y2 := fun ob => (HR3.out ob).z 2
  clear hb2
  go_wp2_with fail
  obtain ⟨hx, hy⟩ := set3 (w0 := w) (HR3.out _) (bel_step HB1.out (HB3.out _)) HLB.out (.int .i64 0) (.string ⟨#[]⟩) (.bool false)
  refine bodyPost_ret (results_cell2 rfl _ _ b _ _ rfl hx.range Tryz.underlying189 (by rfl) (by rfl)) rfl ?_
  exact ⟨by first | (rw [HF.out]; done) | (rw [HF.out]; rfl), hy⟩
 | false =>
  have HF := Lib.hid (show newV y.S a = PlA (placeD y.S a) (placeN a) false 0 by unfold newV; rw [if_neg HE.out, if_neg (by rw [HPP.out]; decide)])
  generalize placeD y.S a = dd at *
  generalize placeN a = nn at *
  go_enter Tryz.func133, Tryz.ntmps133
  go_wp2_with fail
  refine HC.out.mono ?_
  rintro _ w2 ⟨rfl, hb2⟩
  have HB3 := Lib.hid (fun ob => bel_step hb2 (bel_alloc w2 ob))
  have HR3 := Lib.hid (fun ob => HR1.out.below (HB3.out ob))
  have x0 := fun ob => (HR3.out ob).three.1
  have x1 := fun ob => (HR3.out ob).three.2.1
  have x2 := fun ob => (HR3.out ob).three.2.2
  have y0 := fun ob => (HR3.out ob).z 0
  have y1 := fun ob => (HR3.out ob).z 1
  have y2 := fun ob => (HR3.out ob).z 2
  clear hb2
  go_wp2_with fail
  obtain ⟨hx, hy⟩ := set3 (w0 := w) (HR3.out _) (bel_step HB1.out (HB3.out _)) HLB.out (.int .i64 dd) (.string nn) (.bool false)
  refine bodyPost_ret (results_cell2 rfl _ _ b _ _ rfl hx.range Tryz.underlying189 (by rfl) (by rfl)) rfl ?_
  exact ⟨by first | (rw [HF.out]; done) | (rw [HF.out]; rfl), hy⟩
def nuE (S : BS) (i : Int) (n : ByteArray) : Int := if (S.get i n).2 ≠ 0 then (S.get i n).2 else if S.kindOf (S.get i n).1 = 2 then 21 else 20
theorem ret1 {a b : Int} (h : a = b) : Ending.returned (.int .i64 a) = .returned (.int .i64 b) := by rw [h]
theorem notUnlinked_any {w0 w : World} {P B Q room T : Nat} {X : Nat → Prop} {y : Sy} (h : SyX w0 w P B Q X y room T) (i : Int) (n : ByteArray) (d : Bool) :
  Calls Tryz.prog 130 #[Pq P, .agg #[.int .i64 i, .string n, .bool d]] w (RetI w (nuE y.S i n)) := by
 obtain ⟨b, hb⟩ : ∃ b, w.heap.size = b := ⟨_, rfl⟩
 obtain ⟨w1, hw1⟩ : ∃ w1, w.alloc (.cells #[.int .i64 i, .string n, .bool d] 189) = w1 := ⟨_, rfl⟩
 have hb1 : Below w.heap.size w w1 := by rw [← hw1]; exact bel_alloc w _
 have HR1 := Lib.hid (show Rw w1 b [.int .i64 i, .string n, .bool d] by rw [← hw1, ← hb]; exact Rw.new w _ 189)
 have HS1 := Lib.hid (h.below hb1)
 have HB1 := Lib.hid hb1
 have HG := Lib.hid (fun W (hb : Below w1.heap.size w1 W) => p_get2 (HS1.out.below hb) i n)
 have HK := Lib.hid (fun W j (hb : Below w1.heap.size w1 W) => p_kind (HS1.out.below hb) j)
 clear h hb1
 unfold RetW at HG
 unfold RetI at HK ⊢
 have HF := Lib.hid (show nuE y.S i n = if (y.S.get i n).2 ≠ 0 then (y.S.get i n).2 else if y.S.kindOf (y.S.get i n).1 = 2 then 21 else 20 from rfl)
 generalize y.S.get i n = gv at *
 obtain ⟨gi, ge⟩ := gv
 have HK2 := Lib.hid (fun W hb => HK.out W gi hb)
 dsimp only at HG HF HK2
 generalize y.S.kindOf gi = kk at *
 have k0 := HS1.out.c0
 obtain ⟨x0, x1, x2⟩ := HR1.out.three
 by_cases he : ge = 0
 case neg =>
  rw [if_pos he] at HF
  have qe : (ge != 0) = true := by simpa using he
  clear he
  go_enter Tryz.func130, Tryz.ntmps130
  go_wp2_with fail
  go_region_held3 (fun w' => w'.cell? ⟨P, 0, none⟩ = some (Pq B) ∧ w'.cell? ⟨b, 0, none⟩ = some (.int .i64 i) ∧ w'.cell? ⟨b, 1, none⟩ = some (.string n))
   (first | exact ⟨k0, x0, x1⟩ | exact ⟨k0', x0', x1'⟩ | assumption | go_keep)
   (first | (go_at_call 136; ((with_reducible refine (HG.out _ (Below.refl w1.heap.size w1).drew).mono ?_); rintro _ w8 ⟨rfl, hb8⟩; have HB8 := Lib.hid (((Below.refl w1.heap.size w1).drew).trans hb8); have k0' := (HS1.out.below HB8.out).c0; have x0' := (HR1.out.below HB8.out).three.1; have x1' := (HR1.out.below HB8.out).three.2.1)))
  all_goals
   go_wp2_with fail
   go_ret
   exact ⟨ret1 (by rw [HF.out]), bel_step HB1.out HB8.out⟩
 subst he
 rw [if_neg (fun e => e rfl)] at HF
 by_cases hk : kk = 2
 all_goals
  first | (subst hk; rw [if_pos rfl] at HF) | (rw [if_neg hk] at HF; have qk : (kk == 2) = false := (by simpa using hk); clear hk)
  go_enter Tryz.func130, Tryz.ntmps130
  go_wp2_with fail
  go_region_held3 (fun w' => w'.cell? ⟨P, 0, none⟩ = some (Pq B) ∧ w'.cell? ⟨b, 0, none⟩ = some (.int .i64 i) ∧ w'.cell? ⟨b, 1, none⟩ = some (.string n))
   (first | exact ⟨k0, x0, x1⟩ | exact ⟨k0', x0', x1'⟩ | assumption | go_keep)
   (first | (go_at_call 136; ((with_reducible refine (HG.out _ (Below.refl w1.heap.size w1).drew).mono ?_); rintro _ w8 ⟨rfl, hb8⟩; have HB8 := Lib.hid (((Below.refl w1.heap.size w1).drew).trans hb8); have k0' := (HS1.out.below HB8.out).c0; have x0' := (HR1.out.below HB8.out).three.1; have x1' := (HR1.out.below HB8.out).three.2.1)))
  all_goals
   go_wp2_with fail
   refine (HK2.out _ HB8.out).mono ?_
   rintro _ w9 ⟨rfl, hb9⟩
   have HB9 := Lib.hid (bel_step (bel_step HB1.out HB8.out) hb9)
   clear hb9
   go_wp2_with fail
   go_ret
   exact ⟨ret1 (by rw [HF.out]), HB9.out⟩
theorem size_any {w0 w : World} {P B Q room T : Nat} {X : Nat → Prop} {y : Sy} (h : SyX w0 w P B Q X y room T) (i : Int) :
  Calls Tryz.prog 123 #[Pq P, .int .i64 i] w (RetW w (.int .i64 ((y.S.stat i).1.2.1 : Int))) := by
 have HC := Lib.hid (p_stat h i)
 have k0 := h.c0
 unfold cb.statV at HC
 clear h
 unfold RetW at HC ⊢
 generalize y.S.stat i = st at *
 obtain ⟨⟨s0, s1, s2⟩, se⟩ := st
 dsimp only at HC ⊢
 obtain ⟨z1, hz1⟩ : ∃ z1 : Int, (s1 : Int) = z1 := ⟨_, rfl⟩
 rw [hz1] at HC ⊢
 clear hz1
 go_enter Tryz.func123, Tryz.ntmps123
 go_wp2_with fail
 refine HC.out.mono ?_
 rintro _ w2 ⟨rfl, hb2⟩
 have HB2 := Lib.hid (bel_step hb2 (bel_alloc w2 (.cells #[.int .i64 s0, .int .i64 z1, .int .i64 s2] 37)))
 clear hb2
 go_wp2_with fail
 go_ret
 exact ⟨rfl, HB2.out⟩
def toldV (S : BS) (a : ByteArray) (fol : Bool) : Value :=
 if (findR S a fol).2 ≠ 0 then RV (findR S a fol).2 0 ⟨#[]⟩ 0 0 0
 else RV (S.stat (findR S a fol).1).2 0 ⟨#[]⟩ (S.stat (findR S a fol).1).1.1 ((S.stat (findR S a fol).1).1.2.1 : Int) (S.stat (findR S a fol).1).1.2.2
theorem told_any {w0 w : World} {P B Q room T : Nat} {X : Nat → Prop} {y : Sy} (h : SyX w0 w P B Q X y room T) (a : ByteArray) (fol : Bool) :
  Calls Tryz.prog 126 #[Pq P, .string a, .bool fol] w (RetW w (toldV y.S a fol)) := by
 obtain ⟨b, hb⟩ : ∃ b, w.heap.size = b := ⟨_, rfl⟩
 obtain ⟨w1, hw1⟩ : ∃ w1, w.alloc (.cells #[.int .i64 0, .int .i64 0, .string ⟨#[]⟩, .int .i64 0, .int .i64 0, .int .i64 0] 39) = w1 := ⟨_, rfl⟩
 have hb1 : Below w.heap.size w w1 := by rw [← hw1]; exact bel_alloc w _
 have HR1 := Lib.hid (show Rw w1 b (RL 0 0 ⟨#[]⟩ 0 0 0) by rw [← hw1, ← hb]; exact Rw.new w (RL 0 0 ⟨#[]⟩ 0 0 0) 39)
 have HLB := Lib.hid (show w.heap.size ≤ b by omega)
 have HS1 := Lib.hid (h.below hb1)
 have HB1 := Lib.hid hb1
 have HC := Lib.hid (find_any HS1.out a fol)
 have HST := Lib.hid (fun W i (hb : Below w1.heap.size w1 W) => p_stat (HS1.out.below hb) i)
 clear h hb1
 unfold cb.statV at HST
 unfold RetW at HC HST ⊢
 have HF := Lib.hid (show toldV y.S a fol = if (findR y.S a fol).2 ≠ 0 then RV (findR y.S a fol).2 0 ⟨#[]⟩ 0 0 0
  else RV (y.S.stat (findR y.S a fol).1).2 0 ⟨#[]⟩ (y.S.stat (findR y.S a fol).1).1.1 ((y.S.stat (findR y.S a fol).1).1.2.1 : Int) (y.S.stat (findR y.S a fol).1).1.2.2 from rfl)
 generalize findR y.S a fol = fr at *
 obtain ⟨fi, fe⟩ := fr
 dsimp only at HC HF
 by_cases he : fe = 0
 case neg =>
  rw [if_pos he] at HF
  have qe : (fe != 0) = true := by simpa using he
  clear he HST
  go_enter Tryz.func126, Tryz.ntmps126
  go_wp2_with fail
  refine HC.out.mono ?_
  rintro _ w2 ⟨rfl, hb2⟩
  have HB2 := Lib.hid hb2
  clear hb2
  go_wp2_with fail
  refine (failed_any fe w2).mono ?_
  rintro _ w3 ⟨rfl, hb3⟩
  have HB3 := Lib.hid (bel_step HB2.out hb3)
  have HR3 := Lib.hid (HR1.out.below HB3.out)
  obtain ⟨x0, x1, x2, x3, x4, x5⟩ := HR3.out.six
  obtain ⟨y0, y1, y2, y3, y4, y5⟩ := HR3.out.z6
  clear hb3
  go_wp2_with fail
  obtain ⟨hx, hy⟩ := set6 (w0 := w) HR3.out (bel_step HB1.out HB3.out) HLB.out (.int .i64 fe) (.int .i64 0) (.string ⟨#[]⟩) (.int .i64 0) (.int .i64 0) (.int .i64 0)
  refine bodyPost_ret (results_cell1 rfl _ _ b _ _ rfl hx.range Tryz.underlying39 (by rfl) (by rfl)) rfl ?_
  exact ⟨by first | (rw [HF.out]; done) | (rw [HF.out]; rfl), hy⟩
 subst he
 rw [if_neg (fun e => e rfl)] at HF
 have HST2 := Lib.hid (fun W hb => HST.out W fi hb)
 generalize y.S.stat fi = st at *
 obtain ⟨⟨s0, s1, s2⟩, se⟩ := st
 dsimp only at HST2 HF
 obtain ⟨z1, hz1⟩ : ∃ z1 : Int, (s1 : Int) = z1 := ⟨_, rfl⟩
 rw [hz1] at HST2 HF
 clear hz1 HST
 go_enter Tryz.func126, Tryz.ntmps126
 go_wp2_with fail
 refine HC.out.mono ?_
 rintro _ w2 ⟨rfl, hb2⟩
 have HB2 := Lib.hid hb2
 have k0 := (HS1.out.below hb2).c0
 clear hb2
 go_wp2_with fail
 refine (HST2.out _ HB2.out).mono ?_
 rintro _ w3 ⟨rfl, hb3⟩
 have HB3 := Lib.hid (fun ob => bel_step (bel_step HB2.out hb3) (bel_alloc w3 ob))
 have HR3 := Lib.hid (fun ob => HR1.out.below (HB3.out ob))
 have x0 := fun ob => (HR3.out ob).six.1
 have x1 := fun ob => (HR3.out ob).six.2.1
 have x2 := fun ob => (HR3.out ob).six.2.2.1
 have x3 := fun ob => (HR3.out ob).six.2.2.2.1
 have x4 := fun ob => (HR3.out ob).six.2.2.2.2.1
 have x5 := fun ob => (HR3.out ob).six.2.2.2.2.2
 have y0 := fun ob => (HR3.out ob).z 0
 have y1 := fun ob => (HR3.out ob).z 1
 have y2 := fun ob => (HR3.out ob).z 2
 have y3 := fun ob => (HR3.out ob).z 3
 have y4 := fun ob => (HR3.out ob).z 4
 have y5 := fun ob => (HR3.out ob).z 5
 clear hb3 k0
 go_wp2_with fail
 obtain ⟨hx, hy⟩ := set6 (w0 := w) (HR3.out _) (bel_step HB1.out (HB3.out _)) HLB.out (.int .i64 se) (.int .i64 0) (.string ⟨#[]⟩) (.int .i64 s0) (.int .i64 z1) (.int .i64 s2)
 refine bodyPost_ret (results_cell1 rfl _ _ b _ _ rfl hx.range Tryz.underlying39 (by rfl) (by rfl)) rfl ?_
 exact ⟨by first | (rw [HF.out]; done) | (rw [HF.out]; rfl), hy⟩
theorem heap_set {w : World} {b i k : Nat} {v : Value} (h : k ≠ b) : (w.setCell ⟨b, i, none⟩ v).heap[k]? = w.heap[k]? := Below.heap_setCell _ _ _ _ h
theorem heap6 {w : World} {b k : Nat} {v0 v1 v2 v3 v4 v5 : Value} (h : k ≠ b) : ((((((w.setCell ⟨b, 0, none⟩ v0).setCell ⟨b, 1, none⟩ v1).setCell ⟨b, 2, none⟩ v2).setCell ⟨b, 3, none⟩ v3).setCell ⟨b, 4, none⟩ v4).setCell ⟨b, 5, none⟩ v5).heap[k]? = w.heap[k]? := by
 rw [heap_set h, heap_set h, heap_set h, heap_set h, heap_set h, heap_set h]
theorem own_da {w W : World} {lo c : Nat} {A : Option Addr} {d : De} (h : Own w lo A c d.ns) (hk : ∀ g, lo ≤ g → g < w.heap.size → W.heap[g]? = w.heap[g]?) (hs : w.heap.size ≤ W.heap.size) : DA W A d.ns.length c d := by
 refine ⟨rfl, ds.own_cap h, fun hn => ?_⟩
 rcases h.2 with ⟨e2, h0⟩ | ⟨g, cap, cur, hv, hb, hg, hrest⟩
 ·omega
 ·injection hv with hA
  subst hA
  have hlt : g < w.heap.size := by
   rcases Nat.lt_or_ge g w.heap.size with h4 | h4
   ·exact h4
   ·rw [Array.getElem?_eq_none h4] at hg; cases hg
  refine ⟨⟨g, 0, none⟩, rfl, Nat.lt_of_lt_of_le hlt hs, fun j x hx => ?_⟩
  have := World.ownsRow.cells h (g := g) rfl j
  have h2 := this (Sv x) (by rw [List.getElem?_map, hx]; rfl)
  rw [← h2]
  exact World.cell?_of_block (a := (⟨g, 0, none⟩ : Addr).add j) (by rw [pa.addr_block]; exact hk g hb hlt)
theorem da_zero (w : World) : DA w none 0 0 dz := ⟨rfl, ⟨Nat.le_refl _, by unfold maxLen; omega⟩, fun hn => absurd hn (Nat.lt_irrefl 0)⟩
def FileE (w : World) (r : De × Int) (e : Ending) (w' : World) : Prop := ∃ A c, e = .returned (.tuple #[DV A r.1.ns.length c r.1, .int .i64 r.2]) ∧ DA w' A r.1.ns.length c r.1 ∧ Below w.heap.size w w'
def kB (k : Option Nat) (f : Int) : Bool := match k with | some j => !bit f j | none => false
theorem fileD_no {T : Tb} {fd : Int} {k : Option Nat} {d : De} {e : Int} (hg : getV T fd = (d, e)) (h : e ≠ 0 ∨ d.isd = true ∨ kB k d.flag = true) : fileD T fd k = (dz, 9) := by
 unfold fileD
 rw [hg]
 refine if_pos ?_
 rcases h with h | h | h
 ·exact .inl h
 ·exact .inr (.inl h)
 ·cases k with
  | none => cases h
  | some j => exact .inr (.inr ⟨j, rfl, by simpa [kB] using h⟩)
theorem fileD_yes {T : Tb} {fd : Int} {k : Option Nat} {d : De} (hg : getV T fd = (d, 0)) (h1 : d.isd = false) (h2 : kB k d.flag = false) : fileD T fd k = (d, 0) := by
 unfold fileD
 rw [hg]
 refine if_neg ?_
 rintro (h | h | ⟨j, rfl, h⟩)
 ·exact h rfl
 ·rw [h1] at h; cases h
 ·simp [kB] at h2; rw [h2] at h; cases h
theorem file_any {w0 w : World} {P B Q room T : Nat} {X : Nat → Prop} {y : Sy} (h : SyX w0 w P B Q X y room T) (fd F : Int) (k : Option Nat) (hF : ∀ f, (bits BinOp.and IntKind.i64 f F != F) = kB k f) :
  Calls Tryz.prog 120 #[Pq P, .int .i64 fd, .int .i64 F] w (FileE w (fileD y.T fd k)) := by
 obtain ⟨b, hb⟩ : ∃ b, w.heap.size = b := ⟨_, rfl⟩
 obtain ⟨w1, hw1⟩ : ∃ w1, w.alloc (.cells #[.int .i64 0, .int .i64 0, .int .i64 0, .bool false, .slice none 0 0, .int .i64 0] 72) = w1 := ⟨_, rfl⟩
 have hb1 : Below w.heap.size w w1 := by rw [← hw1]; exact bel_alloc w _
 have HR1 := Lib.hid (show Rw w1 b [.int .i64 0, .int .i64 0, .int .i64 0, .bool false, .slice none 0 0, .int .i64 0] by rw [← hw1, ← hb]; exact Rw.new w _ 72)
 have HLB := Lib.hid (show w.heap.size ≤ b by omega)
 have HBL := Lib.hid (show b < w1.heap.size by rw [← hw1, World.size_alloc]; omega)
 have HB1 := Lib.hid hb1
 have HC := Lib.hid (p_get (h.below hb1) fd)
 have k0 := (h.below hb1).c1
 clear h hb1
 unfold GetE at HC
 obtain ⟨gv, hgv⟩ : ∃ gv, getV y.T fd = gv := ⟨_, rfl⟩
 have HGV := Lib.hid hgv
 rw [hgv] at HC
 clear hgv
 obtain ⟨⟨d0, d1, d2, d3, xs, d5⟩, ge⟩ := gv
 unfold DV at HC
 dsimp only at HC
 obtain ⟨m, hm⟩ : ∃ m, xs.length = m := ⟨_, rfl⟩
 have HM := Lib.hid hm
 rw [hm] at HC
 clear hm
 have hfl := hF d1
 clear hF
 by_cases he : ge = 0
 case neg =>
  have HF := Lib.hid (fileD_no (k := k) HGV.out (.inl he))
  have qe : (ge != 0) = true := by simpa using he
  clear he
  go_enter Tryz.func120, Tryz.ntmps120
  go_wp2_with fail
  refine HC.out.mono ?_
  rintro _ w2 ⟨A, c, rfl, hown, hb2⟩
  have HOW := Lib.hid hown
  have HB2 := Lib.hid hb2
  have HB3 := Lib.hid (fun ob => bel_step hb2 (bel_alloc w2 ob))
  have HR3 := Lib.hid (fun ob => HR1.out.below (HB3.out ob))
  have x0 := fun ob => (HR3.out ob).six.1
  have x1 := fun ob => (HR3.out ob).six.2.1
  have x2 := fun ob => (HR3.out ob).six.2.2.1
  have x3 := fun ob => (HR3.out ob).six.2.2.2.1
  have x4 := fun ob => (HR3.out ob).six.2.2.2.2.1
  have x5 := fun ob => (HR3.out ob).six.2.2.2.2.2
  have y0 := fun ob => (HR3.out ob).z 0
  have y1 := fun ob => (HR3.out ob).z 1
  have y2 := fun ob => (HR3.out ob).z 2
  have y3 := fun ob => (HR3.out ob).z 3
  have y4 := fun ob => (HR3.out ob).z 4
  have y5 := fun ob => (HR3.out ob).z 5
  clear hb2 hown k0
  go_wp2_with fail
  obtain ⟨hx, hy⟩ := set6 (w0 := w) (HR3.out _) (bel_step HB1.out (HB3.out _)) HLB.out (.int .i64 0) (.int .i64 0) (.int .i64 0) (.bool false) (.slice none 0 0) (.int .i64 0)
  refine bodyPost_ret (results_cell2 rfl _ _ b _ _ rfl hx.range Tryz.underlying72 (by rfl) (by rfl)) rfl ?_
  refine ⟨none, 0, ?_, ?_, hy⟩
  ·rw [HF.out]; rfl
  ·rw [HF.out]; exact da_zero _
 subst he
 cases d3 with
 | true =>
  have HF := Lib.hid (fileD_no (k := k) HGV.out (.inr (.inl rfl)))
  go_enter Tryz.func120, Tryz.ntmps120
  go_wp2_with fail
  refine HC.out.mono ?_
  rintro _ w2 ⟨A, c, rfl, hown, hb2⟩
  have HOW := Lib.hid hown
  have HB2 := Lib.hid hb2
  have HB3 := Lib.hid (fun ob => bel_step hb2 (bel_alloc w2 ob))
  have HR3 := Lib.hid (fun ob => HR1.out.below (HB3.out ob))
  have x0 := fun ob => (HR3.out ob).six.1
  have x1 := fun ob => (HR3.out ob).six.2.1
  have x2 := fun ob => (HR3.out ob).six.2.2.1
  have x3 := fun ob => (HR3.out ob).six.2.2.2.1
  have x4 := fun ob => (HR3.out ob).six.2.2.2.2.1
  have x5 := fun ob => (HR3.out ob).six.2.2.2.2.2
  have y0 := fun ob => (HR3.out ob).z 0
  have y1 := fun ob => (HR3.out ob).z 1
  have y2 := fun ob => (HR3.out ob).z 2
  have y3 := fun ob => (HR3.out ob).z 3
  have y4 := fun ob => (HR3.out ob).z 4
  have y5 := fun ob => (HR3.out ob).z 5
  clear hb2 hown k0
  go_wp2_with fail
  obtain ⟨hx, hy⟩ := set6 (w0 := w) (HR3.out _) (bel_step HB1.out (HB3.out _)) HLB.out (.int .i64 0) (.int .i64 0) (.int .i64 0) (.bool false) (.slice none 0 0) (.int .i64 0)
  refine bodyPost_ret (results_cell2 rfl _ _ b _ _ rfl hx.range Tryz.underlying72 (by rfl) (by rfl)) rfl ?_
  refine ⟨none, 0, ?_, ?_, hy⟩
  ·rw [HF.out]; rfl
  ·rw [HF.out]; exact da_zero _
 | false =>
 obtain ⟨kb, hkb⟩ : ∃ kb, kB k d1 = kb := ⟨_, rfl⟩
 rw [hkb] at hfl
 cases kb with
 | true =>
  have HF := Lib.hid (fileD_no (k := k) HGV.out (.inr (.inr hkb)))
  clear hkb
  go_enter Tryz.func120, Tryz.ntmps120
  go_wp2_with fail
  refine HC.out.mono ?_
  rintro _ w2 ⟨A, c, rfl, hown, hb2⟩
  have HOW := Lib.hid hown
  have HB2 := Lib.hid hb2
  have HB3 := Lib.hid (fun ob => bel_step hb2 (bel_alloc w2 ob))
  have HR3 := Lib.hid (fun ob => HR1.out.below (HB3.out ob))
  have x0 := fun ob => (HR3.out ob).six.1
  have x1 := fun ob => (HR3.out ob).six.2.1
  have x2 := fun ob => (HR3.out ob).six.2.2.1
  have x3 := fun ob => (HR3.out ob).six.2.2.2.1
  have x4 := fun ob => (HR3.out ob).six.2.2.2.2.1
  have x5 := fun ob => (HR3.out ob).six.2.2.2.2.2
  have y0 := fun ob => (HR3.out ob).z 0
  have y1 := fun ob => (HR3.out ob).z 1
  have y2 := fun ob => (HR3.out ob).z 2
  have y3 := fun ob => (HR3.out ob).z 3
  have y4 := fun ob => (HR3.out ob).z 4
  have y5 := fun ob => (HR3.out ob).z 5
  clear hb2 hown k0
  go_wp2_with fail
  obtain ⟨hx, hy⟩ := set6 (w0 := w) (HR3.out _) (bel_step HB1.out (HB3.out _)) HLB.out (.int .i64 0) (.int .i64 0) (.int .i64 0) (.bool false) (.slice none 0 0) (.int .i64 0)
  refine bodyPost_ret (results_cell2 rfl _ _ b _ _ rfl hx.range Tryz.underlying72 (by rfl) (by rfl)) rfl ?_
  refine ⟨none, 0, ?_, ?_, hy⟩
  ·rw [HF.out]; rfl
  ·rw [HF.out]; exact da_zero _
 | false =>
  have HF := Lib.hid (fileD_yes (k := k) HGV.out rfl hkb)
  clear hkb
  go_enter Tryz.func120, Tryz.ntmps120
  go_wp2_with fail
  refine HC.out.mono ?_
  rintro _ w2 ⟨A, c, rfl, hown, hb2⟩
  have HOW := Lib.hid hown
  have HB2 := Lib.hid hb2
  have HB3 := Lib.hid (fun ob => bel_step hb2 (bel_alloc w2 ob))
  have HR3 := Lib.hid (fun ob => HR1.out.below (HB3.out ob))
  have x0 := fun ob => (HR3.out ob).six.1
  have x1 := fun ob => (HR3.out ob).six.2.1
  have x2 := fun ob => (HR3.out ob).six.2.2.1
  have x3 := fun ob => (HR3.out ob).six.2.2.2.1
  have x4 := fun ob => (HR3.out ob).six.2.2.2.2.1
  have x5 := fun ob => (HR3.out ob).six.2.2.2.2.2
  have y0 := fun ob => (HR3.out ob).z 0
  have y1 := fun ob => (HR3.out ob).z 1
  have y2 := fun ob => (HR3.out ob).z 2
  have y3 := fun ob => (HR3.out ob).z 3
  have y4 := fun ob => (HR3.out ob).z 4
  have y5 := fun ob => (HR3.out ob).z 5
  clear hb2 hown k0
  go_wp2_with fail
  obtain ⟨hx, hy⟩ := set6 (w0 := w) (HR3.out _) (bel_step HB1.out (HB3.out _)) HLB.out (.int .i64 d0) (.int .i64 d1) (.int .i64 d2) (.bool false) (.slice A m c) (.int .i64 d5)
  refine bodyPost_ret (results_cell2 rfl _ _ b _ _ rfl hx.range Tryz.underlying72 (by rfl) (by rfl)) rfl ?_
  refine ⟨A, c, ?_, ?_, hy⟩
  ·rw [HF.out]; show _ = Ending.returned (.tuple #[DV A xs.length c _, _]); rw [HM.out]; rfl
  ·rw [HF.out]
   refine own_da (d := ⟨d0, d1, d2, false, xs, d5⟩) HOW.out (fun g g1 g2 => ?_) ?_
   ·have hgb : g ≠ b := by have := HBL.out; omega
    rw [heap6 hgb]; exact (bel_alloc w2 _).block g g2
   ·have h1 := hx.lt
    simp [World.setCell, World.size_alloc]
def dirD (T : Tb) (fd : Int) : De × Int := if (getV T fd).2 ≠ 0 ∨ (getV T fd).1.isd = false then (dz, 9) else ((getV T fd).1, 0)
theorem dir_any {w0 w : World} {P B Q room T : Nat} {X : Nat → Prop} {y : Sy} (h : SyX w0 w P B Q X y room T) (fd : Int) :
  Calls Tryz.prog 139 #[Pq P, .int .i64 fd] w (FileE w (dirD y.T fd)) := by
 obtain ⟨b, hb⟩ : ∃ b, w.heap.size = b := ⟨_, rfl⟩
 obtain ⟨w1, hw1⟩ : ∃ w1, w.alloc (.cells #[.int .i64 0, .int .i64 0, .int .i64 0, .bool false, .slice none 0 0, .int .i64 0] 72) = w1 := ⟨_, rfl⟩
 have hb1 : Below w.heap.size w w1 := by rw [← hw1]; exact bel_alloc w _
 have HR1 := Lib.hid (show Rw w1 b [.int .i64 0, .int .i64 0, .int .i64 0, .bool false, .slice none 0 0, .int .i64 0] by rw [← hw1, ← hb]; exact Rw.new w _ 72)
 have HLB := Lib.hid (show w.heap.size ≤ b by omega)
 have HBL := Lib.hid (show b < w1.heap.size by rw [← hw1, World.size_alloc]; omega)
 have HB1 := Lib.hid hb1
 have HC := Lib.hid (p_get (h.below hb1) fd)
 have k0 := (h.below hb1).c1
 clear h hb1
 unfold GetE at HC
 obtain ⟨gv, hgv⟩ : ∃ gv, getV y.T fd = gv := ⟨_, rfl⟩
 have HGV := Lib.hid hgv
 rw [hgv] at HC
 clear hgv
 obtain ⟨⟨d0, d1, d2, d3, xs, d5⟩, ge⟩ := gv
 unfold DV at HC
 dsimp only at HC
 obtain ⟨m, hm⟩ : ∃ m, xs.length = m := ⟨_, rfl⟩
 have HM := Lib.hid hm
 rw [hm] at HC
 clear hm
 by_cases he : ge = 0
 case neg =>
  have HF := Lib.hid (show dirD y.T fd = (dz, 9) by unfold dirD; rw [HGV.out]; exact if_pos (.inl he))
  have qe : (ge != 0) = true := by simpa using he
  clear he
  go_enter Tryz.func139, Tryz.ntmps139
  go_wp2_with fail
  refine HC.out.mono ?_
  rintro _ w2 ⟨A, c, rfl, hown, hb2⟩
  have HOW := Lib.hid hown
  have HB2 := Lib.hid hb2
  have HB3 := Lib.hid (fun ob => bel_step hb2 (bel_alloc w2 ob))
  have HR3 := Lib.hid (fun ob => HR1.out.below (HB3.out ob))
  have x0 := fun ob => (HR3.out ob).six.1
  have x1 := fun ob => (HR3.out ob).six.2.1
  have x2 := fun ob => (HR3.out ob).six.2.2.1
  have x3 := fun ob => (HR3.out ob).six.2.2.2.1
  have x4 := fun ob => (HR3.out ob).six.2.2.2.2.1
  have x5 := fun ob => (HR3.out ob).six.2.2.2.2.2
  have y0 := fun ob => (HR3.out ob).z 0
  have y1 := fun ob => (HR3.out ob).z 1
  have y2 := fun ob => (HR3.out ob).z 2
  have y3 := fun ob => (HR3.out ob).z 3
  have y4 := fun ob => (HR3.out ob).z 4
  have y5 := fun ob => (HR3.out ob).z 5
  clear hb2 hown k0
  go_wp2_with fail
  obtain ⟨hx, hy⟩ := set6 (w0 := w) (HR3.out _) (bel_step HB1.out (HB3.out _)) HLB.out (.int .i64 0) (.int .i64 0) (.int .i64 0) (.bool false) (.slice none 0 0) (.int .i64 0)
  refine bodyPost_ret (results_cell2 rfl _ _ b _ _ rfl hx.range Tryz.underlying72 (by rfl) (by rfl)) rfl ?_
  refine ⟨none, 0, ?_, ?_, hy⟩
  ·rw [HF.out]; rfl
  ·rw [HF.out]; exact da_zero _
 subst he
 cases d3 with
 | false =>
  have HF := Lib.hid (show dirD y.T fd = (dz, 9) by unfold dirD; rw [HGV.out]; exact if_pos (.inr rfl))
  go_enter Tryz.func139, Tryz.ntmps139
  go_wp2_with fail
  refine HC.out.mono ?_
  rintro _ w2 ⟨A, c, rfl, hown, hb2⟩
  have HOW := Lib.hid hown
  have HB2 := Lib.hid hb2
  have HB3 := Lib.hid (fun ob => bel_step hb2 (bel_alloc w2 ob))
  have HR3 := Lib.hid (fun ob => HR1.out.below (HB3.out ob))
  have x0 := fun ob => (HR3.out ob).six.1
  have x1 := fun ob => (HR3.out ob).six.2.1
  have x2 := fun ob => (HR3.out ob).six.2.2.1
  have x3 := fun ob => (HR3.out ob).six.2.2.2.1
  have x4 := fun ob => (HR3.out ob).six.2.2.2.2.1
  have x5 := fun ob => (HR3.out ob).six.2.2.2.2.2
  have y0 := fun ob => (HR3.out ob).z 0
  have y1 := fun ob => (HR3.out ob).z 1
  have y2 := fun ob => (HR3.out ob).z 2
  have y3 := fun ob => (HR3.out ob).z 3
  have y4 := fun ob => (HR3.out ob).z 4
  have y5 := fun ob => (HR3.out ob).z 5
  clear hb2 hown k0
  go_wp2_with fail
  obtain ⟨hx, hy⟩ := set6 (w0 := w) (HR3.out _) (bel_step HB1.out (HB3.out _)) HLB.out (.int .i64 0) (.int .i64 0) (.int .i64 0) (.bool false) (.slice none 0 0) (.int .i64 0)
  refine bodyPost_ret (results_cell2 rfl _ _ b _ _ rfl hx.range Tryz.underlying72 (by rfl) (by rfl)) rfl ?_
  refine ⟨none, 0, ?_, ?_, hy⟩
  ·rw [HF.out]; rfl
  ·rw [HF.out]; exact da_zero _
 | true =>
  have HF := Lib.hid (show dirD y.T fd = (⟨d0, d1, d2, true, xs, d5⟩, 0) by unfold dirD; rw [HGV.out]; exact if_neg (fun e => by rcases e with e | e; exact e rfl; cases e))
  go_enter Tryz.func139, Tryz.ntmps139
  go_wp2_with fail
  refine HC.out.mono ?_
  rintro _ w2 ⟨A, c, rfl, hown, hb2⟩
  have HOW := Lib.hid hown
  have HB2 := Lib.hid hb2
  have HB3 := Lib.hid (fun ob => bel_step hb2 (bel_alloc w2 ob))
  have HR3 := Lib.hid (fun ob => HR1.out.below (HB3.out ob))
  have x0 := fun ob => (HR3.out ob).six.1
  have x1 := fun ob => (HR3.out ob).six.2.1
  have x2 := fun ob => (HR3.out ob).six.2.2.1
  have x3 := fun ob => (HR3.out ob).six.2.2.2.1
  have x4 := fun ob => (HR3.out ob).six.2.2.2.2.1
  have x5 := fun ob => (HR3.out ob).six.2.2.2.2.2
  have y0 := fun ob => (HR3.out ob).z 0
  have y1 := fun ob => (HR3.out ob).z 1
  have y2 := fun ob => (HR3.out ob).z 2
  have y3 := fun ob => (HR3.out ob).z 3
  have y4 := fun ob => (HR3.out ob).z 4
  have y5 := fun ob => (HR3.out ob).z 5
  clear hb2 hown k0
  go_wp2_with fail
  obtain ⟨hx, hy⟩ := set6 (w0 := w) (HR3.out _) (bel_step HB1.out (HB3.out _)) HLB.out (.int .i64 d0) (.int .i64 d1) (.int .i64 d2) (.bool true) (.slice A m c) (.int .i64 d5)
  refine bodyPost_ret (results_cell2 rfl _ _ b _ _ rfl hx.range Tryz.underlying72 (by rfl) (by rfl)) rfl ?_
  refine ⟨A, c, ?_, ?_, hy⟩
  ·rw [HF.out]; show _ = Ending.returned (.tuple #[DV A xs.length c _, _]); rw [HM.out]; rfl
  ·rw [HF.out]
   refine own_da (d := ⟨d0, d1, d2, true, xs, d5⟩) HOW.out (fun g g1 g2 => ?_) ?_
   ·have hgb : g ≠ b := by have := HBL.out; omega
    rw [heap6 hgb]; exact (bel_alloc w2 _).block g g2
   ·have h1 := hx.lt
    simp [World.setCell, World.size_alloc]
end Go.Proofs.YtpmpbmjjlccbbaaGreat.tr
