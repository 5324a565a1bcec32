/- Part 24 of what is known of the program's functions and of the document's words: contracts, and the mathematics beneath them. -/
import Derived.Test.YtpmpbmjjlccbbaaGreatProg
import Derived.Test.YtpmpbmjjlccbbaaGreatZ21
import Derived.Test.YtpmpbmjjlccbbaaGreatZ20
import Derived.Test.YtpmpbmjjlccbbaaGreatZ22
import Derived.Test.YtpmpbmjjlccbbaaGreatZ23
import Derived.Deep.RegionHeld3
import Derived.Deep.RegionWith
import Derived.BigQuiet
set_option linter.unusedVariables false
set_option linter.unusedSimpArgs false
set_option maxRecDepth 100000
set_option maxHeartbeats 8000000
namespace Go.Proofs.YtpmpbmjjlccbbaaGreat.cb
open Go.RowKit
open br
open bl (Pq Only)
open pa (Bs Sv pnames pdirE perr ParseE Own Strs OwnE parse_any concat_any pnames_le)
def Nms (w : World) (B : Nat) (A : Option Addr) (xs : List Bs) : Prop := 0 < xs.length → ∃ ad, A = some ad ∧ ad.block ≠ B ∧ ad.block < w.heap.size ∧ ∀ j x, xs[j]? = some x → w.cell? (ad.add j) = some (Sv x)
theorem Nms.only {w w' : World} {B : Nat} {A : Option Addr} {xs : List Bs} (h : Nms w B A xs) (ho : Only (fun b => b = B) w w') : Nms w' B A xs := fun hn => by
 obtain ⟨ad, e, h1, h2, h3⟩ := h hn
 exact ⟨ad, e, h1, Nat.lt_of_lt_of_le h2 ho.size, fun j x hx => (World.cell?_of_block (by rw [pa.addr_block]; exact ho.block _ h2 h1)).trans (h3 j x hx)⟩
theorem Nms.strs {w : World} {B : Nat} {A : Option Addr} {xs : List Bs} (h : Nms w B A xs) : Strs w w.heap.size A xs := fun hn => by
 obtain ⟨ad, e, h1, h2, h3⟩ := h hn
 exact ⟨ad, e, h2, h3⟩
theorem Nms.own {w : World} {B lo c : Nat} {A : Option Addr} {xs : List Bs} (h : Own w lo A c xs) (hB : B < lo) : Nms w B A xs := fun hn => by
 obtain ⟨ad, e, h1, h2⟩ := h.strs hn
 refine ⟨ad, e, ?_, h1, h2⟩
 rcases h.2 with ⟨e1, h0⟩ | ⟨g, cap, cur, hv, hb, hg, _⟩
 ·rw [h0] at hn; exact absurd hn (by decide)
 ·injection hv with hA
  rw [e] at hA
  injection hA with hA
  subst hA
  show g ≠ B
  omega
theorem own_le {w : World} {lo c : Nat} {A : Option Addr} {xs : List Bs} (h : Own w lo A c xs) : xs.length ≤ c := by
 rcases h.2 with ⟨e1, h0⟩ | ⟨g, cap, cur, hv, hb, hg, hl, _⟩
 ·rw [h0]; exact Nat.zero_le _
 ·injection hv with _ _ hc
  rw [hc]; exact hl
structure Wbx (w : World) (B P : Nat) (a : Int) (A : Option Addr) (c : Nat) (ns : List Bs) (d fol : Bool) (l : Int) : Prop where
 c0 : w.cell? ⟨B, 0, none⟩ = some (.iface 26 (Pq P))
 c1 : w.cell? ⟨B, 1, none⟩ = some (.int .i64 a)
 c2 : w.cell? ⟨B, 2, none⟩ = some (.slice A ns.length c)
 c3 : w.cell? ⟨B, 3, none⟩ = some (.bool d)
 c4 : w.cell? ⟨B, 4, none⟩ = some (.bool fol)
 c5 : w.cell? ⟨B, 5, none⟩ = some (.int .i64 l)
 fz : ∀ j, w.frozen? ⟨B, j, none⟩ = false
 st : Nms w B A ns
 lc : ns.length ≤ c
section
variable {w w' : World} {B P c : Nat} {a l : Int} {A : Option Addr} {ns : List Bs} {d fol : Bool}
theorem Wbx.lt (h : Wbx w B P a A c ns d fol l) : B < w.heap.size := World.block_lt_of_cell? _ _ h.c0
theorem Wbx.below (h : Wbx w B P a A c ns d fol l) (hb : Below w.heap.size w w') : Wbx w' B P a A c ns d fol l := by
 have hB := hb.block B h.lt
 have hc : ∀ j, w'.cell? ⟨B, j, none⟩ = w.cell? ⟨B, j, none⟩ := fun j => World.cell?_of_block (a := ⟨B, j, none⟩) hB
 exact ⟨(hc 0).trans h.c0, (hc 1).trans h.c1, (hc 2).trans h.c2, (hc 3).trans h.c3, (hc 4).trans h.c4, (hc 5).trans h.c5, fun j => (World.frozen?_of_block (a := ⟨B, j, none⟩) hB).trans (h.fz j), h.st.only (Only.of_below hb), h.lc⟩
theorem set_oth (w : World) (B j i : Nat) (v : Value) (h : i ≠ j) : (w.setCell ⟨B, j, none⟩ v).cell? ⟨B, i, none⟩ = w.cell? ⟨B, i, none⟩ := World.cell?_setCell_other _ _ _ _ (by intro e; injection e with _ e; exact h e.symm)
theorem only_cell (w : World) (B j : Nat) (v : Value) : Only (fun b => b = B) w (w.setCell ⟨B, j, none⟩ v) := ⟨rfl, rfl, rfl, by simp [World.setCell], fun k hk hF => Below.heap_setCell _ _ _ _ hF⟩
theorem Wbx.sa (h : Wbx w B P a A c ns d fol l) (a' : Int) : Wbx (w.setCell ⟨B, 1, none⟩ (.int .i64 a')) B P a' A c ns d fol l :=
 ⟨(set_oth _ _ _ _ _ (by decide)).trans h.c0, World.cell?_setCell_same' _ _ _ (by rw [h.c1]; rfl), (set_oth _ _ _ _ _ (by decide)).trans h.c2, (set_oth _ _ _ _ _ (by decide)).trans h.c3, (set_oth _ _ _ _ _ (by decide)).trans h.c4, (set_oth _ _ _ _ _ (by decide)).trans h.c5, fun j => (World.frozen?_setCell _ _ _ _).trans (h.fz j), h.st.only (only_cell _ _ _ _), h.lc⟩
theorem Wbx.sd (h : Wbx w B P a A c ns d fol l) (d' : Bool) : Wbx (w.setCell ⟨B, 3, none⟩ (.bool d')) B P a A c ns d' fol l :=
 ⟨(set_oth _ _ _ _ _ (by decide)).trans h.c0, (set_oth _ _ _ _ _ (by decide)).trans h.c1, (set_oth _ _ _ _ _ (by decide)).trans h.c2, World.cell?_setCell_same' _ _ _ (by rw [h.c3]; rfl), (set_oth _ _ _ _ _ (by decide)).trans h.c4, (set_oth _ _ _ _ _ (by decide)).trans h.c5, fun j => (World.frozen?_setCell _ _ _ _).trans (h.fz j), h.st.only (only_cell _ _ _ _), h.lc⟩
theorem Wbx.sl (h : Wbx w B P a A c ns d fol l) (l' : Int) : Wbx (w.setCell ⟨B, 5, none⟩ (.int .i64 l')) B P a A c ns d fol l' :=
 ⟨(set_oth _ _ _ _ _ (by decide)).trans h.c0, (set_oth _ _ _ _ _ (by decide)).trans h.c1, (set_oth _ _ _ _ _ (by decide)).trans h.c2, (set_oth _ _ _ _ _ (by decide)).trans h.c3, (set_oth _ _ _ _ _ (by decide)).trans h.c4, World.cell?_setCell_same' _ _ _ (by rw [h.c5]; rfl), fun j => (World.frozen?_setCell _ _ _ _).trans (h.fz j), h.st.only (only_cell _ _ _ _), h.lc⟩
theorem Wbx.sn (h : Wbx w B P a A c ns d fol l) {A' : Option Addr} {c' : Nat} {ms : List Bs} (hm : Nms w B A' ms) (hl : ms.length ≤ c') : Wbx (w.setCell ⟨B, 2, none⟩ (.slice A' ms.length c')) B P a A' c' ms d fol l :=
 ⟨(set_oth _ _ _ _ _ (by decide)).trans h.c0, (set_oth _ _ _ _ _ (by decide)).trans h.c1, World.cell?_setCell_same' _ _ _ (by rw [h.c2]; rfl), (set_oth _ _ _ _ _ (by decide)).trans h.c3, (set_oth _ _ _ _ _ (by decide)).trans h.c4, (set_oth _ _ _ _ _ (by decide)).trans h.c5, fun j => (World.frozen?_setCell _ _ _ _).trans (h.fz j), hm.only (only_cell _ _ _ _), hl⟩
end
def thrR (l : Int) (t : ByteArray × Int) (k : Nat) : Int := if l = 40 then 40 else if t.2 ≠ 0 then t.2 else if perr t.1.data.toList ≠ 0 then perr t.1.data.toList else if 400 < (pnames t.1.data.toList).length + k then 36 else 0
def slashB (t : ByteArray) : Bool := Lib.hasPrefix t.data.toList [47]
def ThrE (w : World) (B P : Nat) (a : Int) (ns : List Bs) (d fol : Bool) (l : Int) (t : ByteArray × Int) (e : Ending) (w' : World) : Prop :=
 e = .returned (.int .i64 (thrR l t ns.length)) ∧ Only (fun b => b = B) w w' ∧ (thrR l t ns.length = 0 → ∃ A' c', Wbx w' B P (if slashB t.1 = true then 1 else a) A' c' (pnames t.1.data.toList ++ ns) (if ns = [] then d || pdirE t.1.data.toList else d) fol (l + 1))
theorem thr_no {w w' : World} {B P : Nat} {a l : Int} {ns : List Bs} {d fol : Bool} {t : ByteArray × Int} {n : Int} (h : thrR l t ns.length = n) (hn : n ≠ 0) (ho : Only (fun b => b = B) w w') : ThrE w B P a ns d fol l t (.returned (.int .i64 n)) w' :=
 ⟨by rw [h], ho, fun e => absurd (h.symm.trans e) hn⟩
theorem only_trans {B : Nat} {w w1 w2 : World} (h : Only (fun b => b = B) w w1) (k : Only (fun b => b = B) w1 w2) : Only (fun b => b = B) w w2 := h.trans k
theorem thr_any {w : World} {B P c : Nat} {a l i : Int} {A : Option Addr} {ns : List Bs} {d fol : Bool} {t : ByteArray × Int} (h : Wbx w B P a A c ns d fol l)
  (hT : ∀ w2, Below w.heap.size w w2 → Calls Tryz.prog 50 #[Pq P, .int .i64 i] w2 (fun e w' => e = .returned (.tuple #[.string t.1, .int .i64 t.2]) ∧ w' = w2)) (hl : 0 ≤ l ∧ l ≤ 40) (hn : ns.length ≤ 400) :
  Calls Tryz.prog 208 #[Pq B, .int .i64 i] w (ThrE w B P a ns d fol l t) := by
 have hm := m_target P
 have HT := Lib.hid (hT w (Below.refl _ _))
 have HP := Lib.hid (parse_any t.1 w)
 have HX := Lib.hid h
 obtain ⟨b0, b1, b2, b3, b4, b5, fz, -, -⟩ := h
 have g1 := fz 1
 have g2 := fz 2
 have g3 := fz 3
 have g5 := fz 5
 clear hT fz
 obtain ⟨t, te⟩ := t
 unfold ParseE at HP
 dsimp only at HT HP
 obtain ⟨hl0, hl1⟩ := hl
 by_cases h40 : l = 40
 ·subst h40
  clear HT HP
  go_enter Tryz.func208, Tryz.ntmps208
  go_wp2_with fail
  go_ret
  exact thr_no (by unfold thrR; rw [if_pos rfl]) (by decide) (Only.refl _ _)
 have q40 : (l == 40) = false := by simpa using h40
 by_cases hte : te = 0
 case neg =>
  have qte : (te != 0) = true := by simpa using hte
  have HR := Lib.hid (show thrR l (t, te) ns.length = te by unfold thrR; rw [if_neg h40, if_pos hte])
  have HE := Lib.hid hte
  clear HP h40 hte
  go_enter Tryz.func208, Tryz.ntmps208
  go_wp2_with fail
  refine HT.out.mono ?_
  rintro _ w2 ⟨rfl, rfl⟩
  go_wp2_with fail
  go_ret
  exact thr_no HR.out HE.out (Only.refl _ _)
 subst hte
 have hp1 := pnames_le t.data.toList
 obtain ⟨pe, hpe⟩ : ∃ pe, perr t.data.toList = pe := ⟨_, rfl⟩
 have HPE := Lib.hid hpe
 rw [hpe] at HP
 clear hpe
 by_cases hp0 : pe = 0
 case neg =>
  have qpe : (pe != 0) = true := by simpa using hp0
  have HR := Lib.hid (show thrR l (t, 0) ns.length = pe by unfold thrR; rw [if_neg h40, if_neg (fun e => e rfl), HPE.out, if_pos hp0])
  have HE := Lib.hid hp0
  clear h40 hp0
  go_enter Tryz.func208, Tryz.ntmps208
  go_wp2_with fail
  refine HT.out.mono ?_
  rintro _ w2 ⟨rfl, hw2⟩
  subst hw2
  go_wp2_with fail
  refine HP.out.mono ?_
  rintro _ w3 ⟨A1, c1, rfl, -, hb3⟩
  have HB3 := Lib.hid (dn.below_step hb3 (dn.below_alloc w3 (.cells #[.slice A1 (pnames t.data.toList).length c1, .bool (pdirE t.data.toList)] 149)))
  go_wp2_with fail
  go_ret
  exact thr_no HR.out HE.out (Only.of_below HB3.out)
 subst hp0
 obtain ⟨n1, hn1⟩ : ∃ n1, (pnames t.data.toList).length = n1 := ⟨_, rfl⟩
 obtain ⟨k, hk⟩ : ∃ k, ns.length = k := ⟨_, rfl⟩
 have HN1 := Lib.hid hn1
 have HK := Lib.hid hk
 rw [hn1] at HP hp1
 rw [hk] at b2 hn
 clear hn1 hk
 obtain ⟨dp, hdp⟩ : ∃ dp, pdirE t.data.toList = dp := ⟨_, rfl⟩
 have HDP := Lib.hid hdp
 rw [hdp] at HP
 clear hdp
 by_cases hgt : 400 < n1 + k
 ·have HR := Lib.hid (show thrR l (t, 0) ns.length = 36 by unfold thrR; rw [if_neg h40, if_neg (fun e => e rfl), HPE.out, if_neg (fun e => e rfl), if_pos (by rw [HN1.out, HK.out]; exact hgt)])
  have hgi : (400 : Int) < (n1 : Int) + (k : Int) := by omega
  clear h40 hgt
  go_enter Tryz.func208, Tryz.ntmps208
  go_wp2_with fail
  refine HT.out.mono ?_
  rintro _ w2 ⟨rfl, hw2⟩
  subst hw2
  go_wp2_with fail
  refine HP.out.mono ?_
  rintro _ w3 ⟨A1, c1, rfl, -, hb3⟩
  obtain ⟨w4, hw4⟩ : ∃ w4, w3.alloc (.cells #[.slice A1 n1 c1, .bool dp] 149) = w4 := ⟨_, rfl⟩
  have hb4 : Below w2.heap.size w2 w4 := by rw [← hw4]; exact dn.below_step hb3 (dn.below_alloc w3 _)
  have HB4 := Lib.hid hb4
  have r0 : w4.cell? ⟨w3.heap.size, 0, none⟩ = some (.slice A1 n1 c1) := by rw [← hw4]; simp
  have x2 := (HX.out.below hb4).c2
  rw [HK.out] at x2
  clear hb3 hb4
  go_wp2_with fail
  go_quiet (fail)
  go_wp2_with fail
  go_ret
  exact thr_no HR.out (by decide) (Only.of_below (dn.below_drewN HB4.out _))
 have HR := Lib.hid (show thrR l (t, 0) ns.length = 0 by unfold thrR; rw [if_neg h40, if_neg (fun e => e rfl), HPE.out, if_neg (fun e => e rfl), if_neg (by rw [HN1.out, HK.out]; exact hgt)])
 have hgi : ¬ (400 : Int) < (n1 : Int) + (k : Int) := by omega
 have HPX := Lib.hid (fun W => Tryz.strings_HasPrefix t ⟨#[47]⟩ W)
 rw [show Lib.hasPrefix t.data.toList (⟨#[47]⟩ : ByteArray).data.toList = slashB t from rfl] at HPX
 obtain ⟨sl, hsl⟩ : ∃ sl, slashB t = sl := ⟨_, rfl⟩
 have HSL := Lib.hid hsl
 rw [hsl] at HPX
 clear h40 hgt hsl
 by_cases hk0 : k = 0
 ·subst hk0
  have hgi2 : ¬ (400 : Int) < (n1 : Int) := by omega
  cases d
  ·cases sl
   ·skip
    go_enter Tryz.func208, Tryz.ntmps208
    go_wp2_with fail
    refine HT.out.mono ?_
    rintro _ w2 ⟨rfl, hw2⟩
    subst hw2
    go_wp2_with fail
    refine HP.out.mono ?_
    rintro _ w3 ⟨A1, c1, rfl, hown3, hb3⟩
    obtain ⟨w4, hw4⟩ : ∃ w4, w3.alloc (.cells #[.slice A1 n1 c1, .bool dp] 149) = w4 := ⟨_, rfl⟩
    have hb34 : Below w3.heap.size w3 w4 := by rw [← hw4]; exact dn.below_alloc w3 _
    have hb4 : Below w2.heap.size w2 w4 := dn.below_step hb3 hb34
    have HB4 := Lib.hid hb4
    have r0 : w4.cell? ⟨w3.heap.size, 0, none⟩ = some (.slice A1 n1 c1) := by rw [← hw4]; simp
    have r1 : w4.cell? ⟨w3.heap.size, 1, none⟩ = some (.bool dp) := by rw [← hw4]; simp
    have hx4 := HX.out.below hb4
    have HX4 := Lib.hid hx4
    have HOW := Lib.hid (Nms.own (B := B) hown3 HX.out.lt)
    have HBW := Lib.hid (fun w' (ho : Only (fun b => b = B) w3 w') => (HOW.out.only ho))
    have HO34 := Lib.hid (Only.of_below (F := fun b => b = B) hb34)
    have hPB : w3.heap.size ≠ B := by have := HX.out.lt; have := hb3.size; omega
    obtain ⟨PB, hpb⟩ : ∃ PB, w3.heap.size = PB := ⟨_, rfl⟩
    rw [hpb] at r0 r1 hPB
    have x2 := hx4.c2
    rw [HK.out] at x2
    have x5 := hx4.c5
    have z5 := hx4.fz 5
    clear hb3 hb34 hb4 hx4 hown3
    go_wp2_with fail
    go_quiet (fail)
    go_wp2_with fail
    refine (HPX.out _).mono ?_
    rintro _ w6 ⟨rfl, hw6⟩
    have hx6 : Wbx w6 B P a A c ns false fol (l + 1) := by rw [hw6]; exact (HX4.out.below (dn.below_drewN (Below.refl _ _) _)).sl (l + 1)
    have ho46 : Only (fun b => b = B) w4 w6 := by rw [hw6]; exact (Only.of_below (dn.below_drewN (Below.refl _ _) _)).trans (only_cell _ _ _ _)
    have p0 : w6.cell? ⟨PB, 0, none⟩ = some (.slice A1 n1 c1) := (World.cell?_of_block (a := ⟨PB, 0, none⟩) (ho46.block PB (World.block_lt_of_cell? _ _ r0) hPB)).trans r0
    have p1 : w6.cell? ⟨PB, 1, none⟩ = some (.bool dp) := (World.cell?_of_block (a := ⟨PB, 1, none⟩) (ho46.block PB (World.block_lt_of_cell? _ _ r0) hPB)).trans r1
    have HO6 := Lib.hid ((Only.of_below (F := fun b => b = B) HB4.out).trans ho46)
    have HO36 := Lib.hid (HO34.out.trans ho46)
    have HX6 := Lib.hid hx6
    clear hw6 hw4 hpb r0 r1 x2 x5 z5 HX4 HO34
    have hxa := HX6.out
    have hoa : Only (fun b => b = B) w6 w6 := Only.refl _ _
    obtain ⟨w7, hw7⟩ : ∃ w7, w6.setCell ⟨B, 3, none⟩ (.bool dp) = w7 := ⟨_, rfl⟩
    have hx7 : Wbx w7 B P a A c ns dp fol (l + 1) := by rw [← hw7]; exact hxa.sd _
    have ho7 : Only (fun b => b = B) w6 w7 := by rw [← hw7]; exact hoa.trans (only_cell _ _ _ _)
    have p70 : w7.cell? ⟨PB, 0, none⟩ = some (.slice A1 n1 c1) := (World.cell?_of_block (a := ⟨PB, 0, none⟩) (ho7.block PB (World.block_lt_of_cell? _ _ p0) hPB)).trans p0
    have b72 := hx7.c2
    rw [HK.out] at b72
    have b73 := HX6.out.c3
    have a73 := hxa.c3
    have a72 := hxa.c2
    rw [HK.out] at a72
    have e62 := HX6.out.c2
    rw [HK.out] at e62
    have za3 := hxa.fz 3
    have z61 := HX6.out.fz 1
    have c61 := HX6.out.c1
    have q1a : w6.cell? ⟨PB, 1, none⟩ = some (.bool dp) := (World.cell?_of_block (a := ⟨PB, 1, none⟩) (hoa.block PB (World.block_lt_of_cell? _ _ p0) hPB)).trans p1
    obtain ⟨w8, hw8⟩ : ∃ w8, w7.alloc (.cells #[.slice A1 n1 c1, .slice A 0 c] 48) = w8 := ⟨_, rfl⟩
    have hb8 : Below w7.heap.size w7 w8 := by rw [← hw8]; exact dn.below_alloc _ _
    have v0 : w8.cell? ⟨w7.heap.size, 0, none⟩ = some (.slice A1 n1 c1) := by rw [← hw8]; simp
    have v1 : w8.cell? ⟨w7.heap.size, 1, none⟩ = some (.slice A 0 c) := by rw [← hw8]; simp
    have HX8 := Lib.hid (hx7.below hb8.drew)
    have HO8 := Lib.hid ((HO6.out.trans ho7).trans (Only.of_below hb8.drew))
    have HC := Lib.hid (concat_any w7.heap.size w8.drew.heap.size A1 A n1 c1 0 c (pnames t.data.toList) ns w8.drew HN1.out.symm HK.out.symm (by omega) (World.block_lt_of_cell? _ _ v0) (Nat.le_refl _) v0 v1
     (HBW.out _ ((HO36.out.trans ho7).trans (Only.of_below hb8.drew))).strs HX8.out.st.strs)
    unfold OwnE at HC
    clear hx7 ho7 hxa hoa hb8 v0 v1 p0 p1
    go_wp2_with fail
    go_region_with ((go_at_call 221; refine HC.out.mono ?_; rintro _ w9 ⟨A2, c2, rfl, hown9, hb9⟩; have z92 := (HX8.out.below hb9).fz 2; have y92 := (HX8.out.below hb9).c2; rw [HK.out] at y92; have HF9 := Lib.hid ((HX8.out.below hb9).sn (c' := c2) (Nms.own hown9 HX8.out.lt) (own_le hown9)); have HO9 := Lib.hid ((HO8.out.trans (Only.of_below hb9)).trans (only_cell w9 B 2 (.slice A2 (pnames t.data.toList ++ ns).length c2)))))
    all_goals
     rw [List.length_append] at HF9 HO9
     clear HC HX8 HO8 hown9 hb9
     go_wp2_with fail
     go_ret
     refine ⟨by rw [HR.out]; rfl, HO9.out, fun _ => ⟨A2, c2, ?_⟩⟩
     have hF := HF9.out
     have e1 : (if slashB t = true then (1 : Int) else a) = a := by rw [HSL.out]; rfl
     have e2 : (if ns = [] then false || pdirE t.data.toList else false) = dp := by rw [HDP.out]; rw [if_pos (List.eq_nil_of_length_eq_zero HK.out)]; rfl
     dsimp only
     rw [e1, e2]
     exact hF
   ·skip
    go_enter Tryz.func208, Tryz.ntmps208
    go_wp2_with fail
    refine HT.out.mono ?_
    rintro _ w2 ⟨rfl, hw2⟩
    subst hw2
    go_wp2_with fail
    refine HP.out.mono ?_
    rintro _ w3 ⟨A1, c1, rfl, hown3, hb3⟩
    obtain ⟨w4, hw4⟩ : ∃ w4, w3.alloc (.cells #[.slice A1 n1 c1, .bool dp] 149) = w4 := ⟨_, rfl⟩
    have hb34 : Below w3.heap.size w3 w4 := by rw [← hw4]; exact dn.below_alloc w3 _
    have hb4 : Below w2.heap.size w2 w4 := dn.below_step hb3 hb34
    have HB4 := Lib.hid hb4
    have r0 : w4.cell? ⟨w3.heap.size, 0, none⟩ = some (.slice A1 n1 c1) := by rw [← hw4]; simp
    have r1 : w4.cell? ⟨w3.heap.size, 1, none⟩ = some (.bool dp) := by rw [← hw4]; simp
    have hx4 := HX.out.below hb4
    have HX4 := Lib.hid hx4
    have HOW := Lib.hid (Nms.own (B := B) hown3 HX.out.lt)
    have HBW := Lib.hid (fun w' (ho : Only (fun b => b = B) w3 w') => (HOW.out.only ho))
    have HO34 := Lib.hid (Only.of_below (F := fun b => b = B) hb34)
    have hPB : w3.heap.size ≠ B := by have := HX.out.lt; have := hb3.size; omega
    obtain ⟨PB, hpb⟩ : ∃ PB, w3.heap.size = PB := ⟨_, rfl⟩
    rw [hpb] at r0 r1 hPB
    have x2 := hx4.c2
    rw [HK.out] at x2
    have x5 := hx4.c5
    have z5 := hx4.fz 5
    clear hb3 hb34 hb4 hx4 hown3
    go_wp2_with fail
    go_quiet (fail)
    go_wp2_with fail
    refine (HPX.out _).mono ?_
    rintro _ w6 ⟨rfl, hw6⟩
    have hx6 : Wbx w6 B P a A c ns false fol (l + 1) := by rw [hw6]; exact (HX4.out.below (dn.below_drewN (Below.refl _ _) _)).sl (l + 1)
    have ho46 : Only (fun b => b = B) w4 w6 := by rw [hw6]; exact (Only.of_below (dn.below_drewN (Below.refl _ _) _)).trans (only_cell _ _ _ _)
    have p0 : w6.cell? ⟨PB, 0, none⟩ = some (.slice A1 n1 c1) := (World.cell?_of_block (a := ⟨PB, 0, none⟩) (ho46.block PB (World.block_lt_of_cell? _ _ r0) hPB)).trans r0
    have p1 : w6.cell? ⟨PB, 1, none⟩ = some (.bool dp) := (World.cell?_of_block (a := ⟨PB, 1, none⟩) (ho46.block PB (World.block_lt_of_cell? _ _ r0) hPB)).trans r1
    have HO6 := Lib.hid ((Only.of_below (F := fun b => b = B) HB4.out).trans ho46)
    have HO36 := Lib.hid (HO34.out.trans ho46)
    have HX6 := Lib.hid hx6
    clear hw6 hw4 hpb r0 r1 x2 x5 z5 HX4 HO34
    obtain ⟨wa, hwa⟩ : ∃ wa, w6.setCell ⟨B, 1, none⟩ (.int .i64 1) = wa := ⟨_, rfl⟩
    have hxa : Wbx wa B P 1 A c ns false fol (l + 1) := by rw [← hwa]; exact HX6.out.sa 1
    have hoa : Only (fun b => b = B) w6 wa := by rw [← hwa]; exact only_cell _ _ _ _
    obtain ⟨w7, hw7⟩ : ∃ w7, wa.setCell ⟨B, 3, none⟩ (.bool dp) = w7 := ⟨_, rfl⟩
    have hx7 : Wbx w7 B P 1 A c ns dp fol (l + 1) := by rw [← hw7]; exact hxa.sd _
    have ho7 : Only (fun b => b = B) w6 w7 := by rw [← hw7]; exact hoa.trans (only_cell _ _ _ _)
    have p70 : w7.cell? ⟨PB, 0, none⟩ = some (.slice A1 n1 c1) := (World.cell?_of_block (a := ⟨PB, 0, none⟩) (ho7.block PB (World.block_lt_of_cell? _ _ p0) hPB)).trans p0
    have b72 := hx7.c2
    rw [HK.out] at b72
    have b73 := HX6.out.c3
    have a73 := hxa.c3
    have a72 := hxa.c2
    rw [HK.out] at a72
    have e62 := HX6.out.c2
    rw [HK.out] at e62
    have za3 := hxa.fz 3
    have z61 := HX6.out.fz 1
    have c61 := HX6.out.c1
    have q1a : wa.cell? ⟨PB, 1, none⟩ = some (.bool dp) := (World.cell?_of_block (a := ⟨PB, 1, none⟩) (hoa.block PB (World.block_lt_of_cell? _ _ p0) hPB)).trans p1
    obtain ⟨w8, hw8⟩ : ∃ w8, w7.alloc (.cells #[.slice A1 n1 c1, .slice A 0 c] 48) = w8 := ⟨_, rfl⟩
    have hb8 : Below w7.heap.size w7 w8 := by rw [← hw8]; exact dn.below_alloc _ _
    have v0 : w8.cell? ⟨w7.heap.size, 0, none⟩ = some (.slice A1 n1 c1) := by rw [← hw8]; simp
    have v1 : w8.cell? ⟨w7.heap.size, 1, none⟩ = some (.slice A 0 c) := by rw [← hw8]; simp
    have HX8 := Lib.hid (hx7.below hb8.drew)
    have HO8 := Lib.hid ((HO6.out.trans ho7).trans (Only.of_below hb8.drew))
    have HC := Lib.hid (concat_any w7.heap.size w8.drew.heap.size A1 A n1 c1 0 c (pnames t.data.toList) ns w8.drew HN1.out.symm HK.out.symm (by omega) (World.block_lt_of_cell? _ _ v0) (Nat.le_refl _) v0 v1
     (HBW.out _ ((HO36.out.trans ho7).trans (Only.of_below hb8.drew))).strs HX8.out.st.strs)
    unfold OwnE at HC
    clear hx7 ho7 hxa hoa hb8 v0 v1 p0 p1
    go_wp2_with fail
    go_region_with ((go_at_call 221; refine HC.out.mono ?_; rintro _ w9 ⟨A2, c2, rfl, hown9, hb9⟩; have z92 := (HX8.out.below hb9).fz 2; have y92 := (HX8.out.below hb9).c2; rw [HK.out] at y92; have HF9 := Lib.hid ((HX8.out.below hb9).sn (c' := c2) (Nms.own hown9 HX8.out.lt) (own_le hown9)); have HO9 := Lib.hid ((HO8.out.trans (Only.of_below hb9)).trans (only_cell w9 B 2 (.slice A2 (pnames t.data.toList ++ ns).length c2)))))
    all_goals
     rw [List.length_append] at HF9 HO9
     clear HC HX8 HO8 hown9 hb9
     go_wp2_with fail
     go_ret
     refine ⟨by rw [HR.out]; rfl, HO9.out, fun _ => ⟨A2, c2, ?_⟩⟩
     have hF := HF9.out
     have e1 : (if slashB t = true then (1 : Int) else a) = 1 := by rw [HSL.out]; rfl
     have e2 : (if ns = [] then false || pdirE t.data.toList else false) = dp := by rw [HDP.out]; rw [if_pos (List.eq_nil_of_length_eq_zero HK.out)]; rfl
     dsimp only
     rw [e1, e2]
     exact hF
  ·cases sl
   ·skip
    go_enter Tryz.func208, Tryz.ntmps208
    go_wp2_with fail
    refine HT.out.mono ?_
    rintro _ w2 ⟨rfl, hw2⟩
    subst hw2
    go_wp2_with fail
    refine HP.out.mono ?_
    rintro _ w3 ⟨A1, c1, rfl, hown3, hb3⟩
    obtain ⟨w4, hw4⟩ : ∃ w4, w3.alloc (.cells #[.slice A1 n1 c1, .bool dp] 149) = w4 := ⟨_, rfl⟩
    have hb34 : Below w3.heap.size w3 w4 := by rw [← hw4]; exact dn.below_alloc w3 _
    have hb4 : Below w2.heap.size w2 w4 := dn.below_step hb3 hb34
    have HB4 := Lib.hid hb4
    have r0 : w4.cell? ⟨w3.heap.size, 0, none⟩ = some (.slice A1 n1 c1) := by rw [← hw4]; simp
    have r1 : w4.cell? ⟨w3.heap.size, 1, none⟩ = some (.bool dp) := by rw [← hw4]; simp
    have hx4 := HX.out.below hb4
    have HX4 := Lib.hid hx4
    have HOW := Lib.hid (Nms.own (B := B) hown3 HX.out.lt)
    have HBW := Lib.hid (fun w' (ho : Only (fun b => b = B) w3 w') => (HOW.out.only ho))
    have HO34 := Lib.hid (Only.of_below (F := fun b => b = B) hb34)
    have hPB : w3.heap.size ≠ B := by have := HX.out.lt; have := hb3.size; omega
    obtain ⟨PB, hpb⟩ : ∃ PB, w3.heap.size = PB := ⟨_, rfl⟩
    rw [hpb] at r0 r1 hPB
    have x2 := hx4.c2
    rw [HK.out] at x2
    have x5 := hx4.c5
    have z5 := hx4.fz 5
    clear hb3 hb34 hb4 hx4 hown3
    go_wp2_with fail
    go_quiet (fail)
    go_wp2_with fail
    refine (HPX.out _).mono ?_
    rintro _ w6 ⟨rfl, hw6⟩
    have hx6 : Wbx w6 B P a A c ns true fol (l + 1) := by rw [hw6]; exact (HX4.out.below (dn.below_drewN (Below.refl _ _) _)).sl (l + 1)
    have ho46 : Only (fun b => b = B) w4 w6 := by rw [hw6]; exact (Only.of_below (dn.below_drewN (Below.refl _ _) _)).trans (only_cell _ _ _ _)
    have p0 : w6.cell? ⟨PB, 0, none⟩ = some (.slice A1 n1 c1) := (World.cell?_of_block (a := ⟨PB, 0, none⟩) (ho46.block PB (World.block_lt_of_cell? _ _ r0) hPB)).trans r0
    have p1 : w6.cell? ⟨PB, 1, none⟩ = some (.bool dp) := (World.cell?_of_block (a := ⟨PB, 1, none⟩) (ho46.block PB (World.block_lt_of_cell? _ _ r0) hPB)).trans r1
    have HO6 := Lib.hid ((Only.of_below (F := fun b => b = B) HB4.out).trans ho46)
    have HO36 := Lib.hid (HO34.out.trans ho46)
    have HX6 := Lib.hid hx6
    clear hw6 hw4 hpb r0 r1 x2 x5 z5 HX4 HO34
    have hxa := HX6.out
    have hoa : Only (fun b => b = B) w6 w6 := Only.refl _ _
    obtain ⟨w7, hw7⟩ : ∃ w7, w6.setCell ⟨B, 3, none⟩ (.bool true) = w7 := ⟨_, rfl⟩
    have hx7 : Wbx w7 B P a A c ns true fol (l + 1) := by rw [← hw7]; exact hxa.sd _
    have ho7 : Only (fun b => b = B) w6 w7 := by rw [← hw7]; exact hoa.trans (only_cell _ _ _ _)
    have p70 : w7.cell? ⟨PB, 0, none⟩ = some (.slice A1 n1 c1) := (World.cell?_of_block (a := ⟨PB, 0, none⟩) (ho7.block PB (World.block_lt_of_cell? _ _ p0) hPB)).trans p0
    have b72 := hx7.c2
    rw [HK.out] at b72
    have b73 := HX6.out.c3
    have a73 := hxa.c3
    have a72 := hxa.c2
    rw [HK.out] at a72
    have e62 := HX6.out.c2
    rw [HK.out] at e62
    have za3 := hxa.fz 3
    have z61 := HX6.out.fz 1
    have c61 := HX6.out.c1
    have q1a : w6.cell? ⟨PB, 1, none⟩ = some (.bool dp) := (World.cell?_of_block (a := ⟨PB, 1, none⟩) (hoa.block PB (World.block_lt_of_cell? _ _ p0) hPB)).trans p1
    obtain ⟨w8, hw8⟩ : ∃ w8, w7.alloc (.cells #[.slice A1 n1 c1, .slice A 0 c] 48) = w8 := ⟨_, rfl⟩
    have hb8 : Below w7.heap.size w7 w8 := by rw [← hw8]; exact dn.below_alloc _ _
    have v0 : w8.cell? ⟨w7.heap.size, 0, none⟩ = some (.slice A1 n1 c1) := by rw [← hw8]; simp
    have v1 : w8.cell? ⟨w7.heap.size, 1, none⟩ = some (.slice A 0 c) := by rw [← hw8]; simp
    have HX8 := Lib.hid (hx7.below hb8.drew)
    have HO8 := Lib.hid ((HO6.out.trans ho7).trans (Only.of_below hb8.drew))
    have HC := Lib.hid (concat_any w7.heap.size w8.drew.heap.size A1 A n1 c1 0 c (pnames t.data.toList) ns w8.drew HN1.out.symm HK.out.symm (by omega) (World.block_lt_of_cell? _ _ v0) (Nat.le_refl _) v0 v1
     (HBW.out _ ((HO36.out.trans ho7).trans (Only.of_below hb8.drew))).strs HX8.out.st.strs)
    unfold OwnE at HC
    clear hx7 ho7 hxa hoa hb8 v0 v1 p0 p1
    go_wp2_with fail
    go_region_with ((go_at_call 221; refine HC.out.mono ?_; rintro _ w9 ⟨A2, c2, rfl, hown9, hb9⟩; have z92 := (HX8.out.below hb9).fz 2; have y92 := (HX8.out.below hb9).c2; rw [HK.out] at y92; have HF9 := Lib.hid ((HX8.out.below hb9).sn (c' := c2) (Nms.own hown9 HX8.out.lt) (own_le hown9)); have HO9 := Lib.hid ((HO8.out.trans (Only.of_below hb9)).trans (only_cell w9 B 2 (.slice A2 (pnames t.data.toList ++ ns).length c2)))))
    all_goals
     rw [List.length_append] at HF9 HO9
     clear HC HX8 HO8 hown9 hb9
     go_wp2_with fail
     go_ret
     refine ⟨by rw [HR.out]; rfl, HO9.out, fun _ => ⟨A2, c2, ?_⟩⟩
     have hF := HF9.out
     have e1 : (if slashB t = true then (1 : Int) else a) = a := by rw [HSL.out]; rfl
     have e2 : (if ns = [] then true || pdirE t.data.toList else true) = true := by rw [HDP.out]; rw [if_pos (List.eq_nil_of_length_eq_zero HK.out)]; rfl
     dsimp only
     rw [e1, e2]
     exact hF
   ·skip
    go_enter Tryz.func208, Tryz.ntmps208
    go_wp2_with fail
    refine HT.out.mono ?_
    rintro _ w2 ⟨rfl, hw2⟩
    subst hw2
    go_wp2_with fail
    refine HP.out.mono ?_
    rintro _ w3 ⟨A1, c1, rfl, hown3, hb3⟩
    obtain ⟨w4, hw4⟩ : ∃ w4, w3.alloc (.cells #[.slice A1 n1 c1, .bool dp] 149) = w4 := ⟨_, rfl⟩
    have hb34 : Below w3.heap.size w3 w4 := by rw [← hw4]; exact dn.below_alloc w3 _
    have hb4 : Below w2.heap.size w2 w4 := dn.below_step hb3 hb34
    have HB4 := Lib.hid hb4
    have r0 : w4.cell? ⟨w3.heap.size, 0, none⟩ = some (.slice A1 n1 c1) := by rw [← hw4]; simp
    have r1 : w4.cell? ⟨w3.heap.size, 1, none⟩ = some (.bool dp) := by rw [← hw4]; simp
    have hx4 := HX.out.below hb4
    have HX4 := Lib.hid hx4
    have HOW := Lib.hid (Nms.own (B := B) hown3 HX.out.lt)
    have HBW := Lib.hid (fun w' (ho : Only (fun b => b = B) w3 w') => (HOW.out.only ho))
    have HO34 := Lib.hid (Only.of_below (F := fun b => b = B) hb34)
    have hPB : w3.heap.size ≠ B := by have := HX.out.lt; have := hb3.size; omega
    obtain ⟨PB, hpb⟩ : ∃ PB, w3.heap.size = PB := ⟨_, rfl⟩
    rw [hpb] at r0 r1 hPB
    have x2 := hx4.c2
    rw [HK.out] at x2
    have x5 := hx4.c5
    have z5 := hx4.fz 5
    clear hb3 hb34 hb4 hx4 hown3
    go_wp2_with fail
    go_quiet (fail)
    go_wp2_with fail
    refine (HPX.out _).mono ?_
    rintro _ w6 ⟨rfl, hw6⟩
    have hx6 : Wbx w6 B P a A c ns true fol (l + 1) := by rw [hw6]; exact (HX4.out.below (dn.below_drewN (Below.refl _ _) _)).sl (l + 1)
    have ho46 : Only (fun b => b = B) w4 w6 := by rw [hw6]; exact (Only.of_below (dn.below_drewN (Below.refl _ _) _)).trans (only_cell _ _ _ _)
    have p0 : w6.cell? ⟨PB, 0, none⟩ = some (.slice A1 n1 c1) := (World.cell?_of_block (a := ⟨PB, 0, none⟩) (ho46.block PB (World.block_lt_of_cell? _ _ r0) hPB)).trans r0
    have p1 : w6.cell? ⟨PB, 1, none⟩ = some (.bool dp) := (World.cell?_of_block (a := ⟨PB, 1, none⟩) (ho46.block PB (World.block_lt_of_cell? _ _ r0) hPB)).trans r1
    have HO6 := Lib.hid ((Only.of_below (F := fun b => b = B) HB4.out).trans ho46)
    have HO36 := Lib.hid (HO34.out.trans ho46)
    have HX6 := Lib.hid hx6
    clear hw6 hw4 hpb r0 r1 x2 x5 z5 HX4 HO34
    obtain ⟨wa, hwa⟩ : ∃ wa, w6.setCell ⟨B, 1, none⟩ (.int .i64 1) = wa := ⟨_, rfl⟩
    have hxa : Wbx wa B P 1 A c ns true fol (l + 1) := by rw [← hwa]; exact HX6.out.sa 1
    have hoa : Only (fun b => b = B) w6 wa := by rw [← hwa]; exact only_cell _ _ _ _
    obtain ⟨w7, hw7⟩ : ∃ w7, wa.setCell ⟨B, 3, none⟩ (.bool true) = w7 := ⟨_, rfl⟩
    have hx7 : Wbx w7 B P 1 A c ns true fol (l + 1) := by rw [← hw7]; exact hxa.sd _
    have ho7 : Only (fun b => b = B) w6 w7 := by rw [← hw7]; exact hoa.trans (only_cell _ _ _ _)
    have p70 : w7.cell? ⟨PB, 0, none⟩ = some (.slice A1 n1 c1) := (World.cell?_of_block (a := ⟨PB, 0, none⟩) (ho7.block PB (World.block_lt_of_cell? _ _ p0) hPB)).trans p0
    have b72 := hx7.c2
    rw [HK.out] at b72
    have b73 := HX6.out.c3
    have a73 := hxa.c3
    have a72 := hxa.c2
    rw [HK.out] at a72
    have e62 := HX6.out.c2
    rw [HK.out] at e62
    have za3 := hxa.fz 3
    have z61 := HX6.out.fz 1
    have c61 := HX6.out.c1
    have q1a : wa.cell? ⟨PB, 1, none⟩ = some (.bool dp) := (World.cell?_of_block (a := ⟨PB, 1, none⟩) (hoa.block PB (World.block_lt_of_cell? _ _ p0) hPB)).trans p1
    obtain ⟨w8, hw8⟩ : ∃ w8, w7.alloc (.cells #[.slice A1 n1 c1, .slice A 0 c] 48) = w8 := ⟨_, rfl⟩
    have hb8 : Below w7.heap.size w7 w8 := by rw [← hw8]; exact dn.below_alloc _ _
    have v0 : w8.cell? ⟨w7.heap.size, 0, none⟩ = some (.slice A1 n1 c1) := by rw [← hw8]; simp
    have v1 : w8.cell? ⟨w7.heap.size, 1, none⟩ = some (.slice A 0 c) := by rw [← hw8]; simp
    have HX8 := Lib.hid (hx7.below hb8.drew)
    have HO8 := Lib.hid ((HO6.out.trans ho7).trans (Only.of_below hb8.drew))
    have HC := Lib.hid (concat_any w7.heap.size w8.drew.heap.size A1 A n1 c1 0 c (pnames t.data.toList) ns w8.drew HN1.out.symm HK.out.symm (by omega) (World.block_lt_of_cell? _ _ v0) (Nat.le_refl _) v0 v1
     (HBW.out _ ((HO36.out.trans ho7).trans (Only.of_below hb8.drew))).strs HX8.out.st.strs)
    unfold OwnE at HC
    clear hx7 ho7 hxa hoa hb8 v0 v1 p0 p1
    go_wp2_with fail
    go_region_with ((go_at_call 221; refine HC.out.mono ?_; rintro _ w9 ⟨A2, c2, rfl, hown9, hb9⟩; have z92 := (HX8.out.below hb9).fz 2; have y92 := (HX8.out.below hb9).c2; rw [HK.out] at y92; have HF9 := Lib.hid ((HX8.out.below hb9).sn (c' := c2) (Nms.own hown9 HX8.out.lt) (own_le hown9)); have HO9 := Lib.hid ((HO8.out.trans (Only.of_below hb9)).trans (only_cell w9 B 2 (.slice A2 (pnames t.data.toList ++ ns).length c2)))))
    all_goals
     rw [List.length_append] at HF9 HO9
     clear HC HX8 HO8 hown9 hb9
     go_wp2_with fail
     go_ret
     refine ⟨by rw [HR.out]; rfl, HO9.out, fun _ => ⟨A2, c2, ?_⟩⟩
     have hF := HF9.out
     have e1 : (if slashB t = true then (1 : Int) else a) = 1 := by rw [HSL.out]; rfl
     have e2 : (if ns = [] then true || pdirE t.data.toList else true) = true := by rw [HDP.out]; rw [if_pos (List.eq_nil_of_length_eq_zero HK.out)]; rfl
     dsimp only
     rw [e1, e2]
     exact hF
 ·have qk : ((k : Int) == 0) = false := by simpa using hk0
  have hkp : 0 < k := by omega
  cases sl
  ·skip
   go_enter Tryz.func208, Tryz.ntmps208
   go_wp2_with fail
   refine HT.out.mono ?_
   rintro _ w2 ⟨rfl, hw2⟩
   subst hw2
   go_wp2_with fail
   refine HP.out.mono ?_
   rintro _ w3 ⟨A1, c1, rfl, hown3, hb3⟩
   obtain ⟨w4, hw4⟩ : ∃ w4, w3.alloc (.cells #[.slice A1 n1 c1, .bool dp] 149) = w4 := ⟨_, rfl⟩
   have hb34 : Below w3.heap.size w3 w4 := by rw [← hw4]; exact dn.below_alloc w3 _
   have hb4 : Below w2.heap.size w2 w4 := dn.below_step hb3 hb34
   have HB4 := Lib.hid hb4
   have r0 : w4.cell? ⟨w3.heap.size, 0, none⟩ = some (.slice A1 n1 c1) := by rw [← hw4]; simp
   have r1 : w4.cell? ⟨w3.heap.size, 1, none⟩ = some (.bool dp) := by rw [← hw4]; simp
   have hx4 := HX.out.below hb4
   have HX4 := Lib.hid hx4
   have HOW := Lib.hid (Nms.own (B := B) hown3 HX.out.lt)
   have HBW := Lib.hid (fun w' (ho : Only (fun b => b = B) w3 w') => (HOW.out.only ho))
   have HO34 := Lib.hid (Only.of_below (F := fun b => b = B) hb34)
   have hPB : w3.heap.size ≠ B := by have := HX.out.lt; have := hb3.size; omega
   obtain ⟨PB, hpb⟩ : ∃ PB, w3.heap.size = PB := ⟨_, rfl⟩
   rw [hpb] at r0 r1 hPB
   have x2 := hx4.c2
   rw [HK.out] at x2
   have x5 := hx4.c5
   have z5 := hx4.fz 5
   clear hb3 hb34 hb4 hx4 hown3
   go_wp2_with fail
   go_quiet (fail)
   go_wp2_with fail
   refine (HPX.out _).mono ?_
   rintro _ w6 ⟨rfl, hw6⟩
   have hx6 : Wbx w6 B P a A c ns d fol (l + 1) := by rw [hw6]; exact (HX4.out.below (dn.below_drewN (Below.refl _ _) _)).sl (l + 1)
   have ho46 : Only (fun b => b = B) w4 w6 := by rw [hw6]; exact (Only.of_below (dn.below_drewN (Below.refl _ _) _)).trans (only_cell _ _ _ _)
   have p0 : w6.cell? ⟨PB, 0, none⟩ = some (.slice A1 n1 c1) := (World.cell?_of_block (a := ⟨PB, 0, none⟩) (ho46.block PB (World.block_lt_of_cell? _ _ r0) hPB)).trans r0
   have p1 : w6.cell? ⟨PB, 1, none⟩ = some (.bool dp) := (World.cell?_of_block (a := ⟨PB, 1, none⟩) (ho46.block PB (World.block_lt_of_cell? _ _ r0) hPB)).trans r1
   have HO6 := Lib.hid ((Only.of_below (F := fun b => b = B) HB4.out).trans ho46)
   have HO36 := Lib.hid (HO34.out.trans ho46)
   have HX6 := Lib.hid hx6
   clear hw6 hw4 hpb r0 r1 x2 x5 z5 HX4 HO34
   have hxa := HX6.out
   have hoa : Only (fun b => b = B) w6 w6 := Only.refl _ _
   have hx7 := hxa
   have ho7 := hoa
   have p70 : w6.cell? ⟨PB, 0, none⟩ = some (.slice A1 n1 c1) := (World.cell?_of_block (a := ⟨PB, 0, none⟩) (ho7.block PB (World.block_lt_of_cell? _ _ p0) hPB)).trans p0
   have b72 := hx7.c2
   rw [HK.out] at b72
   have b73 := HX6.out.c3
   have a73 := hxa.c3
   have a72 := hxa.c2
   rw [HK.out] at a72
   have e62 := HX6.out.c2
   rw [HK.out] at e62
   have za3 := hxa.fz 3
   have z61 := HX6.out.fz 1
   have c61 := HX6.out.c1
   have q1a : w6.cell? ⟨PB, 1, none⟩ = some (.bool dp) := (World.cell?_of_block (a := ⟨PB, 1, none⟩) (hoa.block PB (World.block_lt_of_cell? _ _ p0) hPB)).trans p1
   obtain ⟨w8, hw8⟩ : ∃ w8, w6.alloc (.cells #[.slice A1 n1 c1, .slice A k c] 48) = w8 := ⟨_, rfl⟩
   have hb8 : Below w6.heap.size w6 w8 := by rw [← hw8]; exact dn.below_alloc _ _
   have v0 : w8.cell? ⟨w6.heap.size, 0, none⟩ = some (.slice A1 n1 c1) := by rw [← hw8]; simp
   have v1 : w8.cell? ⟨w6.heap.size, 1, none⟩ = some (.slice A k c) := by rw [← hw8]; simp
   have HX8 := Lib.hid (hx7.below hb8.drew)
   have HO8 := Lib.hid ((HO6.out.trans ho7).trans (Only.of_below hb8.drew))
   have HC := Lib.hid (concat_any w6.heap.size w8.drew.heap.size A1 A n1 c1 k c (pnames t.data.toList) ns w8.drew HN1.out.symm HK.out.symm (by omega) (World.block_lt_of_cell? _ _ v0) (Nat.le_refl _) v0 v1
    (HBW.out _ ((HO36.out.trans ho7).trans (Only.of_below hb8.drew))).strs HX8.out.st.strs)
   unfold OwnE at HC
   clear hx7 ho7 hxa hoa hb8 v0 v1 p0 p1
   go_wp2_with fail
   go_region_with ((go_at_call 221; refine HC.out.mono ?_; rintro _ w9 ⟨A2, c2, rfl, hown9, hb9⟩; have z92 := (HX8.out.below hb9).fz 2; have y92 := (HX8.out.below hb9).c2; rw [HK.out] at y92; have HF9 := Lib.hid ((HX8.out.below hb9).sn (c' := c2) (Nms.own hown9 HX8.out.lt) (own_le hown9)); have HO9 := Lib.hid ((HO8.out.trans (Only.of_below hb9)).trans (only_cell w9 B 2 (.slice A2 (pnames t.data.toList ++ ns).length c2)))))
   all_goals
    rw [List.length_append] at HF9 HO9
    clear HC HX8 HO8 hown9 hb9
    go_wp2_with fail
    go_ret
    refine ⟨by rw [HR.out]; rfl, HO9.out, fun _ => ⟨A2, c2, ?_⟩⟩
    have hF := HF9.out
    have e1 : (if slashB t = true then (1 : Int) else a) = a := by rw [HSL.out]; rfl
    have e2 : (if ns = [] then d || pdirE t.data.toList else d) = d := by rw [HDP.out]; rw [if_neg (fun e => by rw [e] at HK; have := HK.out; simp at this; omega)]
    dsimp only
    rw [e1, e2]
    exact hF
  ·skip
   go_enter Tryz.func208, Tryz.ntmps208
   go_wp2_with fail
   refine HT.out.mono ?_
   rintro _ w2 ⟨rfl, hw2⟩
   subst hw2
   go_wp2_with fail
   refine HP.out.mono ?_
   rintro _ w3 ⟨A1, c1, rfl, hown3, hb3⟩
   obtain ⟨w4, hw4⟩ : ∃ w4, w3.alloc (.cells #[.slice A1 n1 c1, .bool dp] 149) = w4 := ⟨_, rfl⟩
   have hb34 : Below w3.heap.size w3 w4 := by rw [← hw4]; exact dn.below_alloc w3 _
   have hb4 : Below w2.heap.size w2 w4 := dn.below_step hb3 hb34
   have HB4 := Lib.hid hb4
   have r0 : w4.cell? ⟨w3.heap.size, 0, none⟩ = some (.slice A1 n1 c1) := by rw [← hw4]; simp
   have r1 : w4.cell? ⟨w3.heap.size, 1, none⟩ = some (.bool dp) := by rw [← hw4]; simp
   have hx4 := HX.out.below hb4
   have HX4 := Lib.hid hx4
   have HOW := Lib.hid (Nms.own (B := B) hown3 HX.out.lt)
   have HBW := Lib.hid (fun w' (ho : Only (fun b => b = B) w3 w') => (HOW.out.only ho))
   have HO34 := Lib.hid (Only.of_below (F := fun b => b = B) hb34)
   have hPB : w3.heap.size ≠ B := by have := HX.out.lt; have := hb3.size; omega
   obtain ⟨PB, hpb⟩ : ∃ PB, w3.heap.size = PB := ⟨_, rfl⟩
   rw [hpb] at r0 r1 hPB
   have x2 := hx4.c2
   rw [HK.out] at x2
   have x5 := hx4.c5
   have z5 := hx4.fz 5
   clear hb3 hb34 hb4 hx4 hown3
   go_wp2_with fail
   go_quiet (fail)
   go_wp2_with fail
   refine (HPX.out _).mono ?_
   rintro _ w6 ⟨rfl, hw6⟩
   have hx6 : Wbx w6 B P a A c ns d fol (l + 1) := by rw [hw6]; exact (HX4.out.below (dn.below_drewN (Below.refl _ _) _)).sl (l + 1)
   have ho46 : Only (fun b => b = B) w4 w6 := by rw [hw6]; exact (Only.of_below (dn.below_drewN (Below.refl _ _) _)).trans (only_cell _ _ _ _)
   have p0 : w6.cell? ⟨PB, 0, none⟩ = some (.slice A1 n1 c1) := (World.cell?_of_block (a := ⟨PB, 0, none⟩) (ho46.block PB (World.block_lt_of_cell? _ _ r0) hPB)).trans r0
   have p1 : w6.cell? ⟨PB, 1, none⟩ = some (.bool dp) := (World.cell?_of_block (a := ⟨PB, 1, none⟩) (ho46.block PB (World.block_lt_of_cell? _ _ r0) hPB)).trans r1
   have HO6 := Lib.hid ((Only.of_below (F := fun b => b = B) HB4.out).trans ho46)
   have HO36 := Lib.hid (HO34.out.trans ho46)
   have HX6 := Lib.hid hx6
   clear hw6 hw4 hpb r0 r1 x2 x5 z5 HX4 HO34
   obtain ⟨wa, hwa⟩ : ∃ wa, w6.setCell ⟨B, 1, none⟩ (.int .i64 1) = wa := ⟨_, rfl⟩
   have hxa : Wbx wa B P 1 A c ns d fol (l + 1) := by rw [← hwa]; exact HX6.out.sa 1
   have hoa : Only (fun b => b = B) w6 wa := by rw [← hwa]; exact only_cell _ _ _ _
   have hx7 := hxa
   have ho7 := hoa
   have p70 : wa.cell? ⟨PB, 0, none⟩ = some (.slice A1 n1 c1) := (World.cell?_of_block (a := ⟨PB, 0, none⟩) (ho7.block PB (World.block_lt_of_cell? _ _ p0) hPB)).trans p0
   have b72 := hx7.c2
   rw [HK.out] at b72
   have b73 := HX6.out.c3
   have a73 := hxa.c3
   have a72 := hxa.c2
   rw [HK.out] at a72
   have e62 := HX6.out.c2
   rw [HK.out] at e62
   have za3 := hxa.fz 3
   have z61 := HX6.out.fz 1
   have c61 := HX6.out.c1
   have q1a : wa.cell? ⟨PB, 1, none⟩ = some (.bool dp) := (World.cell?_of_block (a := ⟨PB, 1, none⟩) (hoa.block PB (World.block_lt_of_cell? _ _ p0) hPB)).trans p1
   obtain ⟨w8, hw8⟩ : ∃ w8, wa.alloc (.cells #[.slice A1 n1 c1, .slice A k c] 48) = w8 := ⟨_, rfl⟩
   have hb8 : Below wa.heap.size wa w8 := by rw [← hw8]; exact dn.below_alloc _ _
   have v0 : w8.cell? ⟨wa.heap.size, 0, none⟩ = some (.slice A1 n1 c1) := by rw [← hw8]; simp
   have v1 : w8.cell? ⟨wa.heap.size, 1, none⟩ = some (.slice A k c) := by rw [← hw8]; simp
   have HX8 := Lib.hid (hx7.below hb8.drew)
   have HO8 := Lib.hid ((HO6.out.trans ho7).trans (Only.of_below hb8.drew))
   have HC := Lib.hid (concat_any wa.heap.size w8.drew.heap.size A1 A n1 c1 k c (pnames t.data.toList) ns w8.drew HN1.out.symm HK.out.symm (by omega) (World.block_lt_of_cell? _ _ v0) (Nat.le_refl _) v0 v1
    (HBW.out _ ((HO36.out.trans ho7).trans (Only.of_below hb8.drew))).strs HX8.out.st.strs)
   unfold OwnE at HC
   clear hx7 ho7 hxa hoa hb8 v0 v1 p0 p1
   go_wp2_with fail
   go_region_with ((go_at_call 221; refine HC.out.mono ?_; rintro _ w9 ⟨A2, c2, rfl, hown9, hb9⟩; have z92 := (HX8.out.below hb9).fz 2; have y92 := (HX8.out.below hb9).c2; rw [HK.out] at y92; have HF9 := Lib.hid ((HX8.out.below hb9).sn (c' := c2) (Nms.own hown9 HX8.out.lt) (own_le hown9)); have HO9 := Lib.hid ((HO8.out.trans (Only.of_below hb9)).trans (only_cell w9 B 2 (.slice A2 (pnames t.data.toList ++ ns).length c2)))))
   all_goals
    rw [List.length_append] at HF9 HO9
    clear HC HX8 HO8 hown9 hb9
    go_wp2_with fail
    go_ret
    refine ⟨by rw [HR.out]; rfl, HO9.out, fun _ => ⟨A2, c2, ?_⟩⟩
    have hF := HF9.out
    have e1 : (if slashB t = true then (1 : Int) else a) = 1 := by rw [HSL.out]; rfl
    have e2 : (if ns = [] then d || pdirE t.data.toList else d) = d := by rw [HDP.out]; rw [if_neg (fun e => by rw [e] at HK; have := HK.out; simp at this; omega)]
    dsimp only
    rw [e1, e2]
    exact hF
end Go.Proofs.YtpmpbmjjlccbbaaGreat.cb
