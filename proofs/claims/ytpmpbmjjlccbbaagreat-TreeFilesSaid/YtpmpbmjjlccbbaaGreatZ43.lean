/- Part 43 of what is known of the program's functions and of the document's words: contracts, and the mathematics beneath them. -/
import Derived.Test.YtpmpbmjjlccbbaaGreatProg
import Derived.Test.YtpmpbmjjlccbbaaGreatZ41
import Derived.Deep.LoopGhost
import Derived.Test.YtpmpbmjjlccbbaaGreatZ42
import Derived.Test.YtpmpbmjjlccbbaaGreatZ33
set_option linter.unusedVariables false
set_option linter.unusedSimpArgs false
set_option maxRecDepth 100000
set_option maxHeartbeats 8000000
namespace Go.Proofs.YtpmpbmjjlccbbaaGreat.tr
open Go.RowKit
open br (BS Inv Ino)
open cb (BrX RetW RetI)
open bl (Pq)
open wk (walkT pe pn pd e0 r0 dot1 dot2)
open ds (De Tb DA DV DL GetE StE IntsE lowV openT getV errV setT closeT full allT dz)
open pa (Bs Sv Strs Own own_form info9 own_base)
def NamE (w : World) (ns : List Bs) (x : Int) (e : Ending) (w' : World) : Prop := ∃ A c, e = .returned (.tuple #[.slice A ns.length c, .int .i64 x]) ∧ (ns.length ≤ c ∧ c ≤ maxLen) ∧ Strs w' w'.heap.size A ns ∧ Below w.heap.size w w' ∧ ∀ ad, A = some ad → w.heap.size ≤ ad.block
theorem all_err {S : BS} {i : Int} (h : (S.all i).2 ≠ 0) : namesOf S i = [] := by
 unfold namesOf
 unfold BS.all at h ⊢
 split
 ·rfl
 ·rename_i h1; rw [if_neg h1] at h; exact absurd rfl h
theorem make_names (w : World) (n : Nat) (hn : n ≤ 1000000) :
  (Instr.makeSlice 48 (.int .i64 (n : Int)) (.int .i64 (n : Int))).run Tryz.prog w = .ok (.slice (some ⟨w.heap.size, 0, none⟩) n n) (w.alloc (.cells (List.replicate n (Value.string ⟨#[]⟩)).toArray 9)) := by
 obtain ⟨i, hi, hz, hs, hb⟩ := info_parts (P := Tryz.prog) (e := 9) (z := .string ⟨#[]⟩) (size := 1) (bytes := 16) (by kernel_rfl)
 have hr := run_make (P := Tryz.prog) w 48 9 i (.string ⟨#[]⟩) Tryz.underlying48 hi hz .i64 .i64 n n (by omega) (Int.le_refl _) (by rw [hb]; omega) (by omega)
 rw [hr]
 simp only [Int.toNat_natCast, hs]
 congr 3
 apply Array.ext_getElem?
 intro j
 simp [madeCells, Value.cells, Nat.mod_one, Array.getElem?_range, List.getElem?_replicate]
 by_cases h : j < n <;> simp [h]
theorem entry_cells {w : World} {lo c : Nat} {o : Option Nat} {L : List dn.En} (h : dn.Sl w lo o c L) {k : Nat} {x : dn.En} (hk : L[k]? = some x) : ∃ G, o = some G ∧ G < w.heap.size ∧ w.cell? ⟨G, k * 2, none⟩ = some (.string x.1) ∧ w.cell? ⟨G, k * 2 + 1, none⟩ = some (.int .i64 x.2) := by
 cases o with
 | none => obtain ⟨rfl, _⟩ := h; simp at hk
 | some G =>
  obtain ⟨h1, h2⟩ := dn.encL_at hk
  have a := h.2.cells h1
  exact ⟨G, rfl, World.block_lt_of_cell? w _ a, a, h.2.cells h2⟩
def rowK (ns : List Bs) (k : Nat) : List Value := (ns.take k).map Sv ++ List.replicate (ns.length - k) (.string ⟨#[]⟩)
theorem rowK_len {ns : List Bs} {k : Nat} (hk : k ≤ ns.length) : (rowK ns k).length = ns.length := by unfold rowK; rw [List.length_append, List.length_map, List.length_take, List.length_replicate]; omega
theorem rowK_set {ns : List Bs} {k : Nat} {x : Bs} (h : ns[k]? = some x) : (rowK ns k).set k (Sv x) = rowK ns (k + 1) := by
 have hk := (List.getElem?_eq_some_iff.1 h).1
 apply List.ext_getElem?
 intro j
 have hl : ((ns.take k).map Sv).length = k := by rw [List.length_map, List.length_take]; omega
 have hl1 : ((ns.take (k + 1)).map Sv).length = k + 1 := by rw [List.length_map, List.length_take]; omega
 rw [List.getElem?_set]
 unfold rowK
 by_cases hj : k = j
 ·subst hj
  rw [if_pos rfl, if_pos (by rw [List.length_append, hl, List.length_replicate]; omega), List.getElem?_append_left (by omega), List.getElem?_map, List.getElem?_take_of_lt (by omega), h]; rfl
 ·rw [if_neg hj]
  by_cases hlt : j < k
  ·rw [List.getElem?_append_left (by omega), List.getElem?_append_left (by omega), List.getElem?_map, List.getElem?_map, List.getElem?_take_of_lt (by omega), List.getElem?_take_of_lt (by omega)]
  ·rw [List.getElem?_append_right (by omega), List.getElem?_append_right (by omega), hl, hl1, List.getElem?_replicate, List.getElem?_replicate]
   by_cases h2 : j < ns.length
   ·rw [if_pos (by omega), if_pos (by omega)]
   ·rw [if_neg (by omega), if_neg (by omega)]
theorem names_any {w0 w : World} {P B Q room T : Nat} {X : Nat → Prop} {y : Sy} (h : SyX w0 w P B Q X y room T) (i : Int) :
  Calls Tryz.prog 138 #[Pq P, .int .i64 i] w (NamE w (namesOf y.S i) (y.S.all i).2) := by
 have HA := Lib.hid (p_entries h i)
 have k0 := h.c0
 have HNO := Lib.hid (show namesOf y.S i = (y.S.all i).1.map (fun e => e.1.data.toList) from rfl)
 have HER := Lib.hid (all_err (S := y.S) (i := i))
 have HLE := Lib.hid (names_le h.good.1 i)
 clear h
 unfold NamE
 generalize y.S.all i = al at *
 obtain ⟨L, x⟩ := al
 dsimp only at HA HNO HER
 by_cases hx : x = 0
 case neg =>
  rw [HER.out hx]
  have qx : (x != 0) = true := by simpa using hx
  clear hx HLE
  go_enter Tryz.func138, Tryz.ntmps138
  go_wp2_with fail
  refine HA.out.mono ?_
  rintro _ w2 ⟨o, c, rfl, -, -, -, hb2⟩
  have HB2 := Lib.hid hb2
  clear hb2 k0
  go_wp2_with fail
  go_ret2
  exact ⟨none, 0, rfl, ⟨Nat.le_refl _, by unfold maxLen; omega⟩, Strs.nil _ _ _, HB2.out, fun ad e => by cases e⟩
 subst hx
 generalize namesOf y.S i = ns at *
 go_enter Tryz.func138, Tryz.ntmps138
 go_wp2_with fail
 refine HA.out.mono ?_
 rintro _ w2 ⟨o, c, rfl, hc1, hc2, hsl, hb2⟩
 clear k0
 have HLL := Lib.hid (show L.length = ns.length by rw [HNO.out, List.length_map])
 have hml : L.length ≤ 4000 := by have := HLE.out; rw [← HLL.out] at this; exact this
 have HCL := Lib.hid (fun (k : Nat) (x : dn.En) (hk : L[k]? = some x) => entry_cells hsl hk)
 obtain ⟨m, hm⟩ : ∃ m, L.length = m := ⟨_, rfl⟩
 have HM := Lib.hid hm
 have hmk := make_names w2 m (by omega)
 obtain ⟨w3, hw3⟩ : ∃ w3, w2.alloc (.cells (List.replicate m (Value.string ⟨#[]⟩)).toArray 9) = w3 := ⟨_, rfl⟩
 obtain ⟨N, hN⟩ : ∃ N, w2.heap.size = N := ⟨_, rfl⟩
 have HNM := Lib.hid (show ns.length = m by rw [← HLL.out, hm])
 have HR3 := Lib.hid (show Rw w3 N (rowK ns 0) by
  have e : rowK ns 0 = List.replicate m (Value.string ⟨#[]⟩) := by unfold rowK; rw [HNM.out]; rfl
  rw [e, ← hw3, ← hN]; exact Rw.new w2 _ 9)
 have HB23 := Lib.hid (show Below w2.heap.size w2 w3 by rw [← hw3]; exact bel_alloc w2 _)
 have HB2 := Lib.hid hb2
 have HNN := Lib.hid (show w2.heap.size ≤ N by omega)
 have HN3 := Lib.hid (show N < w3.heap.size by rw [← hw3, World.size_alloc]; omega)
 rw [hN, hw3] at hmk
 rw [hm] at hc1 hml ⊢
 clear hm hsl hb2 hw3 hN
 go_wp2_with fail
 go_loopg [28] m (fun g s28 wr => ∃ k : Nat, k ≤ m ∧ g + k = m ∧ s28 = .int .i64 k ∧ Hid (Below w2.heap.size w2 wr) ∧ Hid (Rw wr N (rowK ns k)))
 case atStart => exact ⟨0, by omega, by omega, rfl, HB23, HR3⟩
 case round =>
  obtain ⟨k, hk, hg, rfl, HB, HR⟩ := hrel
  by_cases hlt : k < m
  ·obtain ⟨x, hx⟩ : ∃ x, L[k]? = some x := ⟨_, List.getElem?_eq_getElem (by rw [HM.out]; exact hlt)⟩
   have hnx : ns[k]? = some x.1.data.toList := by rw [HNO.out, List.getElem?_map, hx]; rfl
   obtain ⟨G, rfl, hG, c0, c1⟩ := HCL.out k x hx
   have d0 := (HB.out.cell (p := ⟨G, k * 2, none⟩) hG).trans c0
   have d1 := (HB.out.cell (p := ⟨G, k * 2 + 1, none⟩) hG).trans c1
   have HSE := Lib.hid (rowK_set hnx)
   have HGK := Lib.hid hg
   obtain ⟨xn, xi⟩ := x
   dsimp only at d0 d1 HSE
   have hsv : Sv xn.data.toList = .string xn := rfl
   rw [hsv] at HSE
   have HRA := Lib.hid (fun ob => HR.out.below (bel_alloc wr ob))
   have HBA := Lib.hid (fun ob => bel_step HB.out (bel_alloc wr ob))
   have e0 : ∀ ob, (wr.alloc ob).cell? ⟨N, k, none⟩ = some (.string ⟨#[]⟩) := fun ob => (HRA.out ob).c k _ (by
    unfold rowK
    rw [List.getElem?_append_right (by rw [List.length_map, List.length_take]; omega), List.length_map, List.length_take, List.getElem?_replicate, if_pos (by have := HNM.out; omega)])
   have e1 : ∀ ob, (wr.alloc ob).frozen? ⟨N, k, none⟩ = false := fun ob => (HRA.out ob).z k
   clear c0 c1 hx hnx hsv
   go_wp2_with fail
   go_roundg (m - (k + 1))
   case measure => have := HGK.out; omega
   case rel => exact ⟨k + 1, by omega, by omega, by go_num, Lib.hid (bel_set (HBA.out _) HNN.out _), Lib.hid (by have := (HRA.out (.cells #[.string xn, .int .i64 xi] 113)).set (i := k) (by rw [rowK_len (by have := HNM.out; omega)]; have := HNM.out; omega) (.string xn); rw [HSE.out] at this; exact this)⟩
  ·have hkm : k = m := by omega
   subst hkm
   clear hlt
   go_wp2_with fail
   go_ret2
   refine ⟨some ⟨N, 0, none⟩, k, by rw [HNM.out]; rfl, ⟨by rw [HNM.out]; exact Nat.le_refl _, by unfold maxLen; omega⟩, fun hn => ⟨⟨N, 0, none⟩, rfl, HR.out.lt, fun j y hj => ?_⟩, bel_step HB2.out HB.out, fun ad e => by injection e with e; subst e; exact Nat.le_trans HB2.out.size HNN.out⟩
   rw [Addr.add_mid, Nat.zero_add]
   refine HR.out.c j _ ?_
   unfold rowK
   rw [← HNM.out, List.take_length, List.getElem?_append_left (by rw [List.length_map]; exact (List.getElem?_eq_some_iff.1 hj).1), List.getElem?_map, hj]; rfl
def RVr (r : Res) : Value := RV r.e r.n r.s r.t.1 (r.t.2.1 : Int) r.t.2.2
def CV (c : Cal) : Value := .agg #[.int .i64 c.op, .int .i64 c.fd, .int .i64 c.flag, .int .i64 c.n, .int .i64 c.off, .string c.a, .string c.b]
def ME (w0 w : World) (P B Q : Nat) (X : Nat → Prop) (room T : Nat) (rel : Res → Sy → Prop) (e : Ending) (w' : World) : Prop :=
 ∃ (r : Res) (y' : Sy), e = .returned (RVr r) ∧ rel r y' ∧ SyX w0 w' P B Q X y' room T ∧ Keeps X w w'
theorem me_done {w0 w : World} {P B Q : Nat} {X : Nat → Prop} {room T : Nat} {rel : Res → Sy → Prop} (W : World) (r : Res) (y' : Sy) (hr : rel r y') (hS : SyX w0 W P B Q X y' room T ∧ Keeps X w W) : ME w0 w P B Q X room T rel (.returned (RVr r)) W := ⟨r, y', rfl, hr, hS.1, hS.2⟩
theorem m_entry {w0 w : World} {P B Q room T : Nat} {X : Nat → Prop} {y : Sy} (h : SyX w0 w P B Q X y room T) (co cf cl cn cx : Int) (ca cb : ByteArray) :
  ∃ (g b : Nat) (w1 w2 : World), w.heap.size = g ∧ w.alloc (.cells #[.int .i64 co, .int .i64 cf, .int .i64 cl, .int .i64 cn, .int .i64 cx, .string ca, .string cb] 34) = w1 ∧ w1.heap.size = b ∧ w1.alloc (.cells #[.int .i64 0, .int .i64 0, .string ⟨#[]⟩, .int .i64 0, .int .i64 0, .int .i64 0] 39) = w2 ∧ Hid (Rw w2 g [.int .i64 co, .int .i64 cf, .int .i64 cl, .int .i64 cn, .int .i64 cx, .string ca, .string cb]) ∧ Hid (Rw w2 b (RL 0 0 ⟨#[]⟩ 0 0 0)) ∧ Hid ((w.heap.size ≤ g ∧ g < w2.heap.size) ∧ (w.heap.size ≤ b ∧ b < w2.heap.size) ∧ g ≠ b) ∧ Hid (St w0 w w2 P B Q X w2.heap.size y room T) := by
 refine ⟨_, _, _, _, rfl, rfl, rfl, rfl, ?_⟩
 have hb1 := bel_alloc w (.cells #[.int .i64 co, .int .i64 cf, .int .i64 cl, .int .i64 cn, .int .i64 cx, .string ca, .string cb] 34)
 have hb12 := bel_alloc (w.alloc (.cells #[.int .i64 co, .int .i64 cf, .int .i64 cl, .int .i64 cn, .int .i64 cx, .string ca, .string cb] 34)) (.cells #[.int .i64 0, .int .i64 0, .string ⟨#[]⟩, .int .i64 0, .int .i64 0, .int .i64 0] 39)
 have s1 := World.size_alloc w (.cells #[.int .i64 co, .int .i64 cf, .int .i64 cl, .int .i64 cn, .int .i64 cx, .string ca, .string cb] 34)
 have s2 := World.size_alloc (w.alloc (.cells #[.int .i64 co, .int .i64 cf, .int .i64 cl, .int .i64 cn, .int .i64 cx, .string ca, .string cb] 34)) (.cells #[.int .i64 0, .int .i64 0, .string ⟨#[]⟩, .int .i64 0, .int .i64 0, .int .i64 0] 39)
 exact ⟨Lib.hid ((Rw.new w [.int .i64 co, .int .i64 cf, .int .i64 cl, .int .i64 cn, .int .i64 cx, .string ca, .string cb] 34).below hb12), Lib.hid (Rw.new _ (RL 0 0 ⟨#[]⟩ 0 0 0) 39), Lib.hid (by omega), Lib.hid (St.start h (bel_step hb1 hb12))⟩
theorem Rw.other {W : World} {b g : Nat} {vs : List Value} {v0 v1 v2 v3 v4 v5 : Value} (h : Rw W g vs) (hne : g ≠ b) : Rw ((((((W.setCell ⟨b, 0, none⟩ v0).setCell ⟨b, 1, none⟩ v1).setCell ⟨b, 2, none⟩ v2).setCell ⟨b, 3, none⟩ v3).setCell ⟨b, 4, none⟩ v4).setCell ⟨b, 5, none⟩ v5) g vs :=
 h.same (heap6 hne) (by have := h.lt; simpa [World.setCell] using this)
theorem stat_there {S : BS} {i : Int} (h : There S i) : (S.stat i).2 = 0 := by
 obtain ⟨I, rfl, i1, i2, ik⟩ := h
 unfold BS.stat
 rw [if_pos (cb.isI_of i1 i2 ik)]
theorem told_stat {room : Nat} {y : Sy} (hG : br.Good y.S room) (c : Cal) (fol : Bool) : toldV y.S c.a fol = RVr (doStat y c fol) := by
 unfold toldV findR doStat RVr
 dsimp only
 by_cases h : (lead y.S c.a fol).2 = 0
 ·have e1 : (if (lead y.S c.a fol).2 = 0 then ((lead y.S c.a fol).1.2.2, (0 : Int)) else (0, (lead y.S c.a fol).2)) = ((lead y.S c.a fol).1.2.2, 0) := if_pos h
  rw [e1, if_neg (show ¬ ((0 : Int) ≠ 0) from fun e => e rfl), if_neg (show ¬ ((lead y.S c.a fol).2 ≠ 0) from fun e => e h), stat_there (lead_there hG h)]
  rfl
 ·have e1 : (if (lead y.S c.a fol).2 = 0 then ((lead y.S c.a fol).1.2.2, (0 : Int)) else (0, (lead y.S c.a fol).2)) = (0, (lead y.S c.a fol).2) := if_neg h
  rw [e1, if_pos (show (lead y.S c.a fol).2 ≠ 0 from h), if_pos (show (lead y.S c.a fol).2 ≠ 0 from h)]
  rfl
theorem placeN_sz (t : ByteArray) : (placeN t).size ≤ 60 := by
 unfold placeN
 cases h : (pn t).getLast? with
 | none => exact (by decide : e0.size ≤ 60)
 | some x => exact wk.pn_sz t x (List.mem_of_getLast? h)
theorem m_stat {w0 w : World} {P B Q room T : Nat} {X : Nat → Prop} {y : Sy} (h : SyX w0 w P B Q X y room T) (hT : T ≤ 990) (hh : Hd room y) (c : Cal) :
  Calls Tryz.prog 68 #[Pq P, CV c] w (ME w0 w P B Q X room (T + 3) (fun r y' => r = doStat y c true ∧ y' = y)) := by
 obtain ⟨co, cf, cl, cn, cx, ca, cb⟩ := c
 have hhR := Lib.hid h
 have HH := Lib.hid hh
 unfold CV
 dsimp only
 obtain ⟨g, b, w1, w2, hg, hw1, hb, hw2, HG2, HR2, HQ, H2⟩ := m_entry h co cf cl cn cx ca cb
 have HD := Lib.hid (me_done (w0 := w0) (w := w) (P := P) (B := B) (Q := Q) (X := X) (room := room) (T := T + 3) (rel := fun r y' => r = doStat y ⟨co, cf, cl, cn, cx, ca, cb⟩ true ∧ y' = y))
 have HT := Lib.hid hT
 obtain ⟨c0, c1, c2, c3, c4, c5, c6⟩ := HG2.out.seven
 unfold ME
 clear h hT hh
 have HC := Lib.hid (told_any H2.out.sy ca true)
 have HV := Lib.hid (told_stat hhR.out.good ⟨co, cf, cl, cn, cx, ca, cb⟩ true)
 unfold RetW at HC
 rw [HV.out] at HC
 generalize doStat y ⟨co, cf, cl, cn, cx, ca, cb⟩ true = r at *
 obtain ⟨re, rn, rs, rk, rz, rl⟩ := r
 unfold RVr at HC
 dsimp only at HC
 obtain ⟨z1, hz1⟩ : ∃ z1 : Int, (rz : Int) = z1 := ⟨_, rfl⟩
 have HZ := Lib.hid hz1
 rw [hz1] at HC
 clear hz1
 go_enter Tryz.func68, Tryz.ntmps68
 go_wp2_with fail
 refine HC.out.mono ?_
 rintro _ w3 ⟨rfl, hb3⟩
 have H3 := Lib.hid (H2.out.below hb3)
 have HR3 := Lib.hid (HR2.out.below hb3)
 obtain ⟨x0, x1, x2, x3, x4, x5⟩ := HR3.out.six
 obtain ⟨y0, y1, y2, y3, y4, y5⟩ := HR3.out.z6
 clear hb3 c0 c1 c2 c3 c4 c5 c6
 go_wp2_with fail
 have hx := set6r HR3.out (.int .i64 re) (.int .i64 rn) (.string rs) (.int .i64 rk) (.int .i64 z1) (.int .i64 rl)
 have hy := (H3.out.set6 (b := b) HQ.out.2.1.1 HQ.out.2.1.2 (.int .i64 re) (.int .i64 rn) (.string rs) (.int .i64 rk) (.int .i64 z1) (.int .i64 rl)).up (by omega : T ≤ T + 3)
 refine bodyPost_ret (results_cell1 rfl _ _ b _ _ rfl hx.range Tryz.underlying39 (by rfl) (by rfl)) rfl ?_
 have hz := HZ.out
 subst hz
 exact HD.out _ _ _ ⟨rfl, rfl⟩ hy.done
theorem m_lstat {w0 w : World} {P B Q room T : Nat} {X : Nat → Prop} {y : Sy} (h : SyX w0 w P B Q X y room T) (hT : T ≤ 990) (hh : Hd room y) (c : Cal) :
  Calls Tryz.prog 69 #[Pq P, CV c] w (ME w0 w P B Q X room (T + 3) (fun r y' => r = doStat y c false ∧ y' = y)) := by
 obtain ⟨co, cf, cl, cn, cx, ca, cb⟩ := c
 have hhR := Lib.hid h
 have HH := Lib.hid hh
 unfold CV
 dsimp only
 obtain ⟨g, b, w1, w2, hg, hw1, hb, hw2, HG2, HR2, HQ, H2⟩ := m_entry h co cf cl cn cx ca cb
 have HD := Lib.hid (me_done (w0 := w0) (w := w) (P := P) (B := B) (Q := Q) (X := X) (room := room) (T := T + 3) (rel := fun r y' => r = doStat y ⟨co, cf, cl, cn, cx, ca, cb⟩ false ∧ y' = y))
 have HT := Lib.hid hT
 obtain ⟨c0, c1, c2, c3, c4, c5, c6⟩ := HG2.out.seven
 unfold ME
 clear h hT hh
 have HC := Lib.hid (told_any H2.out.sy ca false)
 have HV := Lib.hid (told_stat hhR.out.good ⟨co, cf, cl, cn, cx, ca, cb⟩ false)
 unfold RetW at HC
 rw [HV.out] at HC
 generalize doStat y ⟨co, cf, cl, cn, cx, ca, cb⟩ false = r at *
 obtain ⟨re, rn, rs, rk, rz, rl⟩ := r
 unfold RVr at HC
 dsimp only at HC
 obtain ⟨z1, hz1⟩ : ∃ z1 : Int, (rz : Int) = z1 := ⟨_, rfl⟩
 have HZ := Lib.hid hz1
 rw [hz1] at HC
 clear hz1
 go_enter Tryz.func69, Tryz.ntmps69
 go_wp2_with fail
 refine HC.out.mono ?_
 rintro _ w3 ⟨rfl, hb3⟩
 have H3 := Lib.hid (H2.out.below hb3)
 have HR3 := Lib.hid (HR2.out.below hb3)
 obtain ⟨x0, x1, x2, x3, x4, x5⟩ := HR3.out.six
 obtain ⟨y0, y1, y2, y3, y4, y5⟩ := HR3.out.z6
 clear hb3 c0 c1 c2 c3 c4 c5 c6
 go_wp2_with fail
 have hx := set6r HR3.out (.int .i64 re) (.int .i64 rn) (.string rs) (.int .i64 rk) (.int .i64 z1) (.int .i64 rl)
 have hy := (H3.out.set6 (b := b) HQ.out.2.1.1 HQ.out.2.1.2 (.int .i64 re) (.int .i64 rn) (.string rs) (.int .i64 rk) (.int .i64 z1) (.int .i64 rl)).up (by omega : T ≤ T + 3)
 refine bodyPost_ret (results_cell1 rfl _ _ b _ _ rfl hx.range Tryz.underlying39 (by rfl) (by rfl)) rfl ?_
 have hz := HZ.out
 subst hz
 exact HD.out _ _ _ ⟨rfl, rfl⟩ hy.done
theorem m_mkdir {w0 w : World} {P B Q room T : Nat} {X : Nat → Prop} {y : Sy} (h : SyX w0 w P B Q X y room T) (hT : T ≤ 990) (hh : Hd room y) (c : Cal) :
  Calls Tryz.prog 70 #[Pq P, CV c] w (ME w0 w P B Q X room (T + 3) (fun r y' => (r, y') = doMkdir y c)) := by
 obtain ⟨co, cf, cl, cn, cx, ca, cb⟩ := c
 have hhR := Lib.hid h
 have HH := Lib.hid hh
 unfold CV
 dsimp only
 obtain ⟨g, b, w1, w2, hg, hw1, hb, hw2, HG2, HR2, HQ, H2⟩ := m_entry h co cf cl cn cx ca cb
 have HD := Lib.hid (me_done (w0 := w0) (w := w) (P := P) (B := B) (Q := Q) (X := X) (room := room) (T := T + 3) (rel := fun r y' => (r, y') = doMkdir y ⟨co, cf, cl, cn, cx, ca, cb⟩))
 have HT := Lib.hid hT
 obtain ⟨c0, c1, c2, c3, c4, c5, c6⟩ := HG2.out.seven
 unfold ME
 clear h hT hh
 have HC := Lib.hid (place_any H2.out.sy ca 17 (by decide))
 have HF := Lib.hid (show doMkdir y ⟨co, cf, cl, cn, cx, ca, cb⟩ = if placeE y.S ca 17 ≠ 0 then (wrong (placeE y.S ca 17), y) else (wrong (y.S.make (placeD y.S ca) (placeN ca) 2 e0).1.2, ⟨(y.S.make (placeD y.S ca) (placeN ca) 2 e0).2, y.T⟩) from rfl)
 unfold RetW placeV at HC
 have HSN := Lib.hid (placeN_sz ca)
 generalize doMkdir y ⟨co, cf, cl, cn, cx, ca, cb⟩ = dd at *
 by_cases he : placeE y.S ca 17 = 0
 case neg =>
  rw [if_neg he] at HC
  rw [if_pos he] at HF
  generalize placeE y.S ca 17 = er at *
  have qe : (er != 0) = true := by simpa using he
  clear he
  go_enter Tryz.func70, Tryz.ntmps70
  go_wp2_with fail
  refine HC.out.mono ?_
  rintro _ w3 ⟨rfl, hb3⟩
  have H4 := Lib.hid (fun ob => H2.out.grow (bel_step hb3 (bel_alloc w3 ob)) rfl)
  have HR4 := Lib.hid (fun ob => HR2.out.below (bel_step hb3 (bel_alloc w3 ob)))
  have HQB := Lib.hid (fun ob => (show b < (w3.alloc ob).heap.size by have h1 := HQ.out; have h3 := hb3.size; rw [World.size_alloc]; omega))
  clear hb3 c0 c1 c2 c3 c4 c5 c6
  go_wp2_with fail
  refine (failed_any (er) _).mono ?_
  rintro _ w7 ⟨rfl, hb7⟩
  have H7 := Lib.hid ((H4.out _).below hb7)
  have HR7 := Lib.hid ((HR4.out _).below hb7)
  obtain ⟨x0, x1, x2, x3, x4, x5⟩ := HR7.out.six
  obtain ⟨y0, y1, y2, y3, y4, y5⟩ := HR7.out.z6
  clear hb7 
  go_wp2_with fail
  refine bodyPost_ret (results_cell1 rfl _ _ b _ _ rfl (set6r HR7.out _ _ _ _ _ _).range Tryz.underlying39 (by rfl) (by rfl)) rfl ?_
  exact HD.out _ _ _ (HF.out.symm) ((H7.out.set6 HQ.out.2.1.1 (HQB.out _) _ _ _ _ _ _).up (by omega : T ≤ T + 3)).done
 rw [if_pos he] at HC
 rw [if_neg (fun e => e he)] at HF
 clear he
 generalize placeD y.S ca = pi at *
 generalize placeN ca = pnm at *
 generalize pd ca = pdd at *
 go_enter Tryz.func70, Tryz.ntmps70
 go_wp2_with fail
 refine HC.out.mono ?_
 rintro _ w3 ⟨rfl, hb3⟩
 obtain ⟨w4, hw4⟩ : ∃ w4, w3.alloc (.cells #[.int .i64 pi, .string pnm, .bool pdd] 189) = w4 := ⟨_, rfl⟩
 obtain ⟨g4, hg4⟩ : ∃ g4, w3.heap.size = g4 := ⟨_, rfl⟩
 have hb34 : Below w3.heap.size w3 w4 := by rw [← hw4]; exact bel_alloc w3 _
 have hb4 := bel_step hb3 hb34
 have HP4 := Lib.hid (show Rw w4 g4 [.int .i64 pi, .string pnm, .bool pdd] by rw [← hw4, ← hg4]; exact Rw.new w3 [.int .i64 pi, .string pnm, .bool pdd] 189)
 have H4 := Lib.hid (H2.out.grow hb4 rfl)
 have HG4 := Lib.hid (HG2.out.below hb4)
 have HR4 := Lib.hid (HR2.out.below hb4)
 have HQ4 := Lib.hid (show (w.heap.size ≤ g4 ∧ g4 < w4.heap.size) ∧ g4 ≠ b by
  have h1 := HQ.out; have h2 := HP4.out.lt; have h3 := hb3.size; omega)
 have HN4 := Lib.hid (show w2.heap.size ≤ w4.heap.size from hb4.size)
 have HQB := Lib.hid (show b < w4.heap.size by have h1 := HQ.out; have h2 := HN4.out; omega)
 clear hb3 hb34 hb4 c0 c1 c2 c3 c4 c5 c6
 have H4d := Lib.hid (H4.out.below (Below.refl w4.heap.size w4).drew)
 have HP4d := Lib.hid (HP4.out.below (Below.refl w4.heap.size w4).drew)
 have HR4d := Lib.hid (HR4.out.below (Below.refl w4.heap.size w4).drew)
 have HM := Lib.hid (show Calls Tryz.prog 128 #[Pq B, .int .i64 pi, .string pnm, .int .i64 2, .string ⟨#[]⟩] w4.drew (StepE w0 w4.drew P B Q _ (.tuple #[.int .i64 (y.S.make pi pnm 2 e0).1.1, .int .i64 (y.S.make pi pnm 2 e0).1.2]) ⟨(y.S.make pi pnm 2 e0).2, y.T⟩ room (T + 1)) from p_make H4d.out.sy (by have := HT.out; omega) pi pnm 2 e0 (by have := HSN.out; omega) (by decide))
 unfold StepE at HM
 generalize (y.S.make pi pnm 2 e0).1.1 = mi at *
 generalize (y.S.make pi pnm 2 e0).1.2 = me at *
 generalize (y.S.make pi pnm 2 e0).2 = S' at *
 have k0 := H4.out.c0
 obtain ⟨t0, t1, t2⟩ := HP4.out.three
 go_wp2_with fail
 go_region_held3 (fun w' => w'.cell? ⟨P, 0, none⟩ = some (Pq B) ∧ w'.cell? ⟨g4, 0, none⟩ = some (.int .i64 pi) ∧ w'.cell? ⟨g4, 1, none⟩ = some (.string pnm))
  (first | with_reducible exact ⟨k0, t0, t1⟩ | with_reducible exact S8 | assumption | go_keep)
  (first | (go_at_call 128; ((with_reducible refine HM.out.mono ?_); rintro _ w8 ⟨rfl, k1, k2⟩; have H8 := Lib.hid (H4d.out.move k1 k2); have HR8 := Lib.hid (HR4d.out.keep k2 HQ.out.2.1.1 HQB.out k1); have HP8 := Lib.hid (HP4d.out.keep k2 HQ4.out.1.1 HQ4.out.1.2 k1); have S8 := And.intro k1.c0 (And.intro HP8.out.three.1 HP8.out.three.2.1); clear k1 k2)))
 all_goals
  clear k0 t0 t1 t2 S8
  go_wp2_with fail
  refine (failed_any (me) w8).mono ?_
  rintro _ w7 ⟨rfl, hb7⟩
  have H7 := Lib.hid ((H8.out).below hb7)
  have HR7 := Lib.hid ((HR8.out).below hb7)
  obtain ⟨x0, x1, x2, x3, x4, x5⟩ := HR7.out.six
  obtain ⟨y0, y1, y2, y3, y4, y5⟩ := HR7.out.z6
  clear hb7 
  go_wp2_with fail
  refine bodyPost_ret (results_cell1 rfl _ _ b _ _ rfl (set6r HR7.out _ _ _ _ _ _).range Tryz.underlying39 (by rfl) (by rfl)) rfl ?_
  exact HD.out _ _ _ (HF.out.symm) ((H7.out.set6 HQ.out.2.1.1 HQB.out _ _ _ _ _ _).up (by omega : T + 1 ≤ T + 3)).done
end Go.Proofs.YtpmpbmjjlccbbaaGreat.tr
section
namespace Go.Proofs.YtpmpbmjjlccbbaaGreat.wk
theorem walk_live (X : Tr) {Lv : Int → Prop} (hL : Live X Lv) (fol : Bool) (m : Nat) (a : Int) (ns : List ByteArray) (d : Bool) (ha : Lv a) (h : (walkT X fol m a ns d).2 = 0) : Lv (walkT X fol m a ns d).1.2.2 := by
 match ns with
 | [] => rw [w_nil]; exact ha
 | n :: r =>
  by_cases hk : X.kind a = 2
  case neg => rw [w_kind hk] at h; exact absurd h (by decide : ¬ (20 : Int) = 0)
  by_cases h1 : n = dot2
  ·subst h1
   rw [w_dots hk] at h ⊢
   exact walk_live X hL fol m _ r d (hL.up a ha hk).1 h
  by_cases h2 : n = dot1
  ·subst h2
   rw [w_dot hk] at h ⊢
   exact walk_live X hL fol m _ r d ha h
  by_cases h3 : (X.get a n).2 = 0
  case neg =>
   rw [w_err hk h1 h2 h3] at h
   split at h
   ·exact absurd h (by decide : ¬ (2 : Int) = 0)
   ·exact absurd h h3
  have hg := hL.get a n ha hk h3
  by_cases h4 : Lnk X fol a n r d
  ·match m with
   | 0 => rw [w_loop hk h1 h2 h3 h4] at h; exact absurd h (by decide : ¬ (40 : Int) = 0)
   | k + 1 =>
    rw [w_link hk h1 h2 h3 h4] at h ⊢
    by_cases g1 : (X.target (X.get a n).1).2 = 0
    case neg => rw [if_pos g1] at h; exact absurd h g1
    by_cases g2 : pe (X.target (X.get a n).1).1 = 0
    case neg => rw [if_neg (nn g1), if_pos g2] at h; exact absurd h g2
    by_cases g3 : 400 < (pn (X.target (X.get a n).1).1).length + r.length
    ·rw [if_neg (nn g1), if_neg (nn g2), if_pos g3] at h; exact absurd h (by decide : ¬ (36 : Int) = 0)
    rw [if_neg (nn g1), if_neg (nn g2), if_neg g3] at h ⊢
    refine walk_live X hL fol k _ _ _ ?_ h
    split
    ·exact hL.root.1
    ·exact ha
  ·by_cases h5 : r = []
   ·subst h5
    rw [w_last hk h1 h2 h3 h4] at h ⊢
    split at h
    ·exact absurd h (by decide : ¬ (20 : Int) = 0)
    ·rename_i h6; rw [if_neg h6]; exact hg
   ·rw [w_on hk h1 h2 h3 h4 h5] at h ⊢
    exact walk_live X hL fol m _ r d hg h
termination_by (m, ns.length)
decreasing_by all_goals first | (apply Prod.Lex.left; omega) | (apply Prod.Lex.right; simp)
end Go.Proofs.YtpmpbmjjlccbbaaGreat.wk
namespace Go.Proofs.YtpmpbmjjlccbbaaGreat.tr
open Go.Proofs.YtpmpbmjjlccbbaaGreat.br (BS Inv Ino)
open Go.Proofs.YtpmpbmjjlccbbaaGreat.wk (walkT pe pn pd e0 r0 dot1 dot2)
open Go.Proofs.YtpmpbmjjlccbbaaGreat.cb (trS)
theorem place_two {S : BS} {t : ByteArray} {b : Int} (hb : b ≠ 0) (h : placeE S t b = 0) : (upR S t).2 = 0 ∧ S.kindOf (placeD S t) = 2 := by
 unfold placeE at h
 by_cases h1 : pe t = 0
 case neg => rw [if_pos h1] at h; exact absurd h h1
 rw [if_neg (fun e => e h1)] at h
 split at h
 ·exact absurd h hb
 split at h
 ·rename_i h3; exact absurd h h3
 rename_i h3
 split at h
 ·exact absurd h (by decide)
 rename_i h4
 exact ⟨Classical.not_not.1 h3, Classical.not_not.1 h4⟩
theorem place_dirE {S : BS} {room : Nat} (hG : br.Good S room) {t : ByteArray} {b : Int} (hb : b ≠ 0) (h : placeE S t b = 0) : S.dirE (placeD S t) true = 0 ∧ S.dirE (placeD S t) false = 0 := by
 obtain ⟨h1, h2⟩ := place_two hb h
 have hL := cb.live_of hG
 obtain ⟨k, hk, k1, k2, kl⟩ := wk.walk_live (trS S) hL true 40 1 (pn t).dropLast true hL.root.1 h1
 have hd : placeD S t = (k : Int) := hk
 rw [hd] at h2 ⊢
 rw [cb.kind_of k1 k2] at h2
 unfold BS.dirE
 rw [cb.isI_of k1 k2 (by rw [h2]; decide), br.at_nat, h2]
 have hf : ¬ (true = true ∧ (S.ino k).links = 0) := fun e => kl e.2
 constructor
 ·rw [if_neg (by decide), if_neg (by decide), if_neg hf]
 ·rw [if_neg (by decide), if_neg (by decide), if_neg (fun e => by cases e.1)]
end Go.Proofs.YtpmpbmjjlccbbaaGreat.tr
end
