/- Part 26 of what is known of the program's functions and of the document's words: contracts, and the mathematics beneath them. -/
import Derived.Test.YtpmpbmjjlccbbaaGreatProg
import Derived.Test.YtpmpbmjjlccbbaaGreatZ24
import Derived.Test.YtpmpbmjjlccbbaaGreatZ25
import Derived.Deep.RegionHeld3
import Derived.Deep.RegionWith
set_option linter.unusedVariables false
set_option linter.unusedSimpArgs false
set_option maxRecDepth 100000
set_option maxHeartbeats 8000000
namespace Go.Proofs.YtpmpbmjjlccbbaaGreat.cb
open Go.RowKit Go.Deep
open br
open bl (Pq Only)
open pa (Bs Sv)
open wk (walkT w_nil w_kind w_dots w_dot w_err w_loop w_link w_last w_on)
def nsB (ns : List Bs) : List ByteArray := ns.map fun x => ⟨x.toArray⟩
structure Ctr (w0 : World) (P : Nat) (S : BS) : Prop where
 kind : ∀ w2 i, Below w0.heap.size w0 w2 → Calls Tryz.prog 132 #[Pq P, .int .i64 i] w2 (RetI w2 (S.kindOf i))
 get : ∀ w2 a n, Below w0.heap.size w0 w2 → Calls Tryz.prog 136 #[Pq P, .int .i64 a, .string n] w2 (RetW w2 (.tuple #[.int .i64 (S.get a n).1, .int .i64 (S.get a n).2]))
 parent : ∀ w2 i, Below w0.heap.size w0 w2 → Calls Tryz.prog 251 #[Pq P, .int .i64 i] w2 (RetI w2 (S.parentOf i))
 target : ∀ w2 i, Below w0.heap.size w0 w2 → Calls Tryz.prog 50 #[Pq P, .int .i64 i] w2 (fun e w' => e = .returned (.tuple #[.string (S.targetOf i).1, .int .i64 (S.targetOf i).2]) ∧ w' = w2)
def RowR (w : World) (R : Nat) : Prop := w.heap[R]? = some (.cells #[.int .i64 0, .string ⟨#[]⟩, .int .i64 0] 212 (0, 0))
theorem RowR.only {w w' : World} {R B : Nat} (h : RowR w R) (hne : R ≠ B) (ho : Only (fun b => b = B) w w') : RowR w' R := by
 have hl : R < w.heap.size := by
  rcases Nat.lt_or_ge R w.heap.size with h1 | h1
  ·exact h1
  ·unfold RowR at h; rw [Array.getElem?_eq_none h1] at h; cases h
 exact (ho.block R hl hne).trans h
theorem RowR.lt {w : World} {R : Nat} (h : RowR w R) : R < w.heap.size := by
 rcases Nat.lt_or_ge R w.heap.size with h1 | h1
 ·exact h1
 ·unfold RowR at h; rw [Array.getElem?_eq_none h1] at h; cases h
theorem RowR.facts {w : World} {R : Nat} (h : RowR w R) : w.cell? ⟨R, 0, none⟩ = some (.int .i64 0) ∧ w.cell? ⟨R, 1, none⟩ = some (.string ⟨#[]⟩) ∧ w.cell? ⟨R, 2, none⟩ = some (.int .i64 0) ∧ ∀ j, w.frozen? ⟨R, j, none⟩ = false :=
 ⟨by rw [cell_row h]; rfl, by rw [cell_row h]; rfl, by rw [cell_row h]; rfl, fun j => by unfold RowR at h; simp [World.frozen?, h]⟩
theorem below_only {w0 w w' : World} {B : Nat} (h : Below w0.heap.size w0 w) (ho : Only (fun b => b = B) w w') (hB : w0.heap.size ≤ B) : Below w0.heap.size w0 w' :=
 h.trans ⟨ho.os, ho.tape, ho.output, ho.size, fun k hk => ho.block k (Nat.lt_of_lt_of_le hk h.size) (fun e => by omega)⟩
def WalkE (w0 : World) (R : wk.Rs) (e : Ending) (w' : World) : Prop := e = .returned (FoundV R) ∧ Below w0.heap.size w0 w'
theorem oth3 {w : World} {G B j : Nat} (h : B ≠ G) (x y z : Value) : (((w.setCell ⟨G, 0, none⟩ x).setCell ⟨G, 1, none⟩ y).setCell ⟨G, 2, none⟩ z).cell? ⟨B, j, none⟩ = w.cell? ⟨B, j, none⟩ := by
 have hn : ∀ i, (⟨G, i, none⟩ : Addr) ≠ ⟨B, j, none⟩ := fun i e => by injection e with e; exact h e.symm
 rw [World.cell?_setCell_other _ _ _ _ (hn 2), World.cell?_setCell_other _ _ _ _ (hn 1), World.cell?_setCell_other _ _ _ _ (hn 0)]
theorem lookR_err {S : BS} {fol : Bool} {m : Nat} {a : Int} {n : ByteArray} {r : List Bs} {d : Bool} (h : S.kindOf a = 2) (h1 : n ≠ wk.dot2) (h2 : n ≠ wk.dot1) (h3 : (S.get a n).2 ≠ 0) :
  walkT (trS S) fol m a (n :: nsB r) d = lookR a n (decide (r.length = 0)) (S.get a n) := by
 rw [w_err h h1 h2 h3]
 unfold lookR
 rw [if_neg h3]
 have e : (nsB r = [] ↔ r.length = 0) := by unfold nsB; cases r <;> simp
 by_cases hc : (S.get a n).2 = 2 ∧ r.length = 0
 ·rw [if_pos ⟨hc.1, e.2 hc.2⟩, if_pos ⟨hc.1, decide_eq_true hc.2⟩]
 ·rw [if_neg (fun k => hc ⟨k.1, e.1 k.2⟩), if_neg (fun k => hc ⟨k.1, of_decide_eq_true k.2⟩)]
  rfl
theorem slash_eq (t : ByteArray) : slashB t = wk.slash t := by
 unfold slashB wk.slash Lib.hasPrefix
 cases t.data.toList with
 | nil => rfl
 | cons c l => simp [List.isPrefixOf]; first | exact BEq.comm | exact BEq.comm.symm
theorem nsB_pn (t : ByteArray) (r : List Bs) : nsB (pa.pnames t.data.toList ++ r) = wk.pn t ++ nsB r := by
 unfold nsB wk.pn; rw [List.map_append]
theorem nsB_nil {r : List Bs} : nsB r = [] ↔ r = [] := by unfold nsB; cases r <;> simp
theorem nsB_len (r : List Bs) : (nsB r).length = r.length := by unfold nsB; simp
theorem thr_walk {S : BS} {fol : Bool} {m : Nat} {a : Int} {n : ByteArray} {r : List Bs} {d : Bool} (hm : m ≤ 40) (h : S.kindOf a = 2) (h1 : n ≠ wk.dot2) (h2 : n ≠ wk.dot1) (h3 : (S.get a n).2 = 0) (h4 : S.kindOf (S.get a n).1 = 3 ∧ (r ≠ [] ∨ fol = true ∨ d = true)) :
  (thrR ((40 : Int) - m) (S.targetOf (S.get a n).1) r.length ≠ 0 → walkT (trS S) fol m a (n :: nsB r) d = (wk.r0, thrR ((40 : Int) - m) (S.targetOf (S.get a n).1) r.length)) ∧
  (thrR ((40 : Int) - m) (S.targetOf (S.get a n).1) r.length = 0 → ∃ k, m = k + 1 ∧ (pa.pnames (S.targetOf (S.get a n).1).1.data.toList ++ r).length ≤ 400 ∧
   walkT (trS S) fol m a (n :: nsB r) d = walkT (trS S) fol k (if slashB (S.targetOf (S.get a n).1).1 = true then 1 else a) (nsB (pa.pnames (S.targetOf (S.get a n).1).1.data.toList ++ r)) (if r = [] then d || pa.pdirE (S.targetOf (S.get a n).1).1.data.toList else d)) := by
 have hL : wk.Lnk (trS S) fol a n (nsB r) d := ⟨h4.1, h4.2.imp (fun e e1 => e (nsB_nil.1 e1)) id⟩
 have ht : (trS S).target ((trS S).get a n).1 = S.targetOf (S.get a n).1 := rfl
 generalize hT : S.targetOf (S.get a n).1 = t at *
 have e1 : wk.pe t.1 = pa.perr t.1.data.toList := rfl
 have e2 : (wk.pn t.1).length = (pa.pnames t.1.data.toList).length := by unfold wk.pn; simp
 match m, hm with
 | 0, _ =>
  have e : thrR ((40 : Int) - ((0 : Nat) : Int)) t r.length = 40 := by unfold thrR; rw [if_pos (by decide)]
  rw [e]
  exact ⟨fun _ => w_loop h h1 h2 h3 hL, fun e => absurd e (by decide)⟩
 | k + 1, hm =>
  have n40 : ¬ (40 : Int) - ((k + 1 : Nat) : Int) = 40 := by omega
  rw [w_link h h1 h2 h3 hL, ht, e1, e2, nsB_len]
  by_cases g1 : t.2 = 0
  case neg =>
   have e : thrR ((40 : Int) - ((k + 1 : Nat) : Int)) t r.length = t.2 := by unfold thrR; rw [if_neg n40, if_pos g1]
   rw [e, if_pos g1]
   exact ⟨fun _ => rfl, fun e => absurd e g1⟩
  by_cases g2 : pa.perr t.1.data.toList = 0
  case neg =>
   have e : thrR ((40 : Int) - ((k + 1 : Nat) : Int)) t r.length = pa.perr t.1.data.toList := by unfold thrR; rw [if_neg n40, if_neg (wk.nn g1), if_pos g2]
   rw [e, if_neg (wk.nn g1), if_pos g2]
   exact ⟨fun _ => rfl, fun e => absurd e g2⟩
  by_cases g3 : 400 < (pa.pnames t.1.data.toList).length + r.length
  ·have e : thrR ((40 : Int) - ((k + 1 : Nat) : Int)) t r.length = 36 := by unfold thrR; rw [if_neg n40, if_neg (wk.nn g1), if_neg (wk.nn g2), if_pos g3]
   rw [e, if_neg (wk.nn g1), if_neg (wk.nn g2), if_pos g3]
   exact ⟨fun _ => rfl, fun e => absurd e (by decide)⟩
  have e : thrR ((40 : Int) - ((k + 1 : Nat) : Int)) t r.length = 0 := by unfold thrR; rw [if_neg n40, if_neg (wk.nn g1), if_neg (wk.nn g2), if_neg g3]
  rw [e, if_neg (wk.nn g1), if_neg (wk.nn g2), if_neg g3]
  refine ⟨fun e => absurd rfl e, fun _ => ⟨k, rfl, by rw [List.length_append]; omega, ?_⟩⟩
  rw [slash_eq, nsB_pn]
  have e5 : (if nsB r = [] then d || wk.pd t.1 else d) = (if r = [] then d || pa.pdirE t.1.data.toList else d) := by simp only [nsB_nil]; rfl
  rw [e5]
theorem walk_any {w0 w : World} {B P c : Nat} {a : Int} {A : Option Addr} {ns : List Bs} {d fol : Bool} {S : BS} (hX : Wbx w B P a A c ns d fol 0) (hw : Below w0.heap.size w0 w) (hB : w0.heap.size ≤ B) (hC : Ctr w0 P S) (hn : ns.length ≤ 400) :
  Calls Tryz.prog 192 #[Pq B] w (WalkE w0 (walkT (trS S) fol 40 a (nsB ns) d)) := by
 obtain ⟨R, hR⟩ : ∃ R, walkT (trS S) fol 40 a (nsB ns) d = R := ⟨_, rfl⟩
 have HC := Lib.hid hC
 have hm1 := m_kind P
 have hm2 := m_parent P
 have hBl := hX.lt
 obtain ⟨Rb, hRb⟩ : ∃ Rb, w.heap.size = Rb := ⟨_, rfl⟩
 obtain ⟨w1, hw1⟩ : ∃ w1, w.alloc (.cells #[.int .i64 0, .string ⟨#[]⟩, .int .i64 0] 212) = w1 := ⟨_, rfl⟩
 have hb1 : Below w.heap.size w w1 := by rw [← hw1]; exact dn.below_alloc w _
 have HR1 := Lib.hid (show RowR w1 Rb by rw [← hw1, ← hRb]; exact heap_alloc_new w _)
 have HX1 := Lib.hid (hX.below hb1)
 have HB1 := Lib.hid (hw.trans (hb1.mono hw.size))
 have hne : Rb ≠ B := by omega
 have hRl : w0.heap.size ≤ Rb := by have := hw.size; omega
 have HRR := Lib.hid hR
 rw [hR]
 clear hX hw hC hR hb1 hBl
 unfold WalkE
 go_enter Tryz.func192, Tryz.ntmps192
 go_wp2_with fail
 go_loopg [4] (40 * 401 + ns.length) (fun g s4 wr => ∃ (m : Nat) (a : Int) (A : Option Addr) (c : Nat) (ns : List Bs) (d : Bool), g = m * 401 + ns.length ∧ m ≤ 40 ∧ ns.length ≤ 400 ∧ Hid (walkT (trS S) fol m a (nsB ns) d = R) ∧ Hid (Wbx wr B P a A c ns d fol ((40 : Int) - m)) ∧ Hid (Below w0.heap.size w0 wr) ∧ Hid (RowR wr Rb))
 case atStart => exact ⟨40, a, A, c, ns, d, rfl, Nat.le_refl _, hn, HRR, HX1, HB1, HR1⟩
 case round =>
  clear HX1 HB1 HR1 hw1 hRb HRR
  obtain ⟨m, a, A, c, ns, d, hg, hm, hn, HRR, HX, HBW, HRW⟩ := hrel
  have hx := HX.out
  have b0 := hx.c0
  have b1 := hx.c1
  have b2 := hx.c2
  rcases ns with _ | ⟨x, r⟩
  ·obtain ⟨r0, r1, r2, rz⟩ := HRW.out.facts
   have z0 := rz 0
   have z1 := rz 1
   have z2 := rz 2
   have HS := Lib.hid (fun p q u => box_set3 (t := 212) (m := (0, 0)) (B := Rb) hRl HRW.out (HBW.out) p q u)
   have HF := Lib.hid (show R = ((a, wk.e0, a), 0) by rw [← HRR.out]; exact w_nil)
   have b2' : wr.cell? ⟨B, 2, none⟩ = some (.slice A 0 c) := b2
   clear rz hx hg b2
   go_wp2_with fail
   go_region
   go_wp2_with fail
   obtain ⟨hx, hy⟩ := HS.out _ _ _
   refine bodyPost_ret (results_row_tmp rfl _ _ Rb _ _ rfl hx Tryz.underlying212 (by rfl) (by rfl)) rfl ?_
   exact ⟨by rw [HF.out]; rfl, hy.drew⟩
  ·obtain ⟨ad, rfl, ha1, ha2, ha3⟩ := hx.st (Nat.succ_pos _)
   obtain ⟨g0, o0, rfl, -⟩ := spot_none (ha3 0 x rfl)
   obtain ⟨XN, hXN⟩ : ∃ XN : ByteArray, (⟨x.toArray⟩ : ByteArray) = XN := ⟨_, rfl⟩
   have hx0 : wr.cell? ⟨g0, o0, none⟩ = some (.string XN) := by have := ha3 0 x rfl; rw [show (Addr.add ⟨g0, o0, none⟩ 0 : Addr) = ⟨g0, o0, none⟩ from by simp [Addr.add]] at this; rw [this, ← hXN]
   have HRX := Lib.hid (show walkT (trS S) fol m a (XN :: nsB r) d = R by rw [← HRR.out, ← hXN]; rfl)
   have HD2 := Lib.hid (show (XN.toList == [46, 46]) = decide (XN = wk.dot2) by rw [← dn.beq_names, show wk.dot2.toList = [46, 46] from by rw [Lib.toList_data]; rfl])
   have HD1 := Lib.hid (show (XN.toList == [46]) = decide (XN = wk.dot1) by rw [← dn.beq_names, show wk.dot1.toList = [46] from by rw [Lib.toList_data]; rfl])
   have hlc : r.length + 1 ≤ c := hx.lc
   obtain ⟨q, hq⟩ : ∃ q, r.length = q := ⟨_, rfl⟩
   have HQ := Lib.hid hq
   have b2' : wr.cell? ⟨B, 2, none⟩ = some (.slice (some ⟨g0, o0, none⟩) (q + 1) c) := by rw [← hq]; exact b2
   have hqn : q + 1 ≤ 400 := by rw [← hq]; exact hn
   rw [hq] at hlc
   have hx' := hx
   have y2 := hx.fz 2
   have HNS := Lib.hid (show ∀ ad c', (q = 0 ∨ ad = ⟨g0, o0 + 1, none⟩) → q ≤ c' → Wbx (wr.setCell ⟨B, 2, none⟩ (.slice (some ad) q c')) B P a (some ad) c' r d fol ((40 : Int) - m) from fun ad c' hc hq' => by
    have hm : Nms wr B (some ad) r := fun hn => by
     rcases hc with h0 | rfl
     ·omega
     ·refine ⟨_, rfl, ha1, ha2, fun j y hy => ?_⟩
      have := ha3 (j + 1) y hy
      have e : (Addr.add ⟨g0, o0 + 1, none⟩ j : Addr) = Addr.add ⟨g0, o0, none⟩ (j + 1) := by
       rw [show (⟨g0, o0 + 1, none⟩ : Addr) = Addr.add ⟨g0, o0, none⟩ 1 from by simp [Addr.add], pa.addr_add, Nat.add_comm]
      rw [e]; exact this
    have := hx'.sn (c' := c') hm (by rw [hq]; exact hq')
    rw [hq] at this
    exact this)
   have HGK := Lib.hid (show gk = m * 401 + (r.length + 1) from hg)
   clear b2 hx hx' hg hn hq ha1 ha2 ha3
   obtain ⟨ad', c', hsl, hcc⟩ := run_tail g0 o0 q c hlc
   have hsl2 : ∀ W, (Instr.sliceAt 48 (.slice (some ⟨g0, o0, none⟩) (q + 1) c) (some (.int .i64 1)) none none).run Tryz.prog W = .ok (.slice (some ad') q c') W := fun W => by
    rw [run_sliceAt_slice (P := Tryz.prog) W 48 _ _ _ _ (by kernel_rfl)]; exact hsl W
   have HX2 := Lib.hid (HNS.out ad' c' hcc.1 hcc.2)
   obtain ⟨W2, hW2⟩ : ∃ W2, wr.setCell ⟨B, 2, none⟩ (.slice (some ad') q c') = W2 := ⟨_, rfl⟩
   have HO2 := Lib.hid (show Only (fun b => b = B) wr W2 by rw [← hW2]; exact only_cell _ _ _ _)
   rw [hW2] at HX2
   clear HNS hcc
   have e0 := HX2.out.c0
   have e1 := HX2.out.c1
   have lB := HX2.out.lt
   have HB2 := Lib.hid (below_only HBW.out HO2.out hB)
   have HR2 := Lib.hid (HRW.out.only hne HO2.out)
   have HK := Lib.hid (fun W (hb : Below w0.heap.size w0 W) => HC.out.kind W a hb)
   unfold RetI at HK
   clear HX HBW HRW
   by_cases hk : S.kindOf a = 2
   case neg =>
    have HF := Lib.hid (show R = (wk.r0, 20) by rw [← HRX.out]; exact w_kind hk)
    generalize S.kindOf a = kk at HK hk
    have qk : (kk != 2) = true := by simpa using hk
    have qk2 : (kk == 2) = false := by simpa using hk
    go_wp2_with fail
    go_region_held3 (fun w' => w'.cell? ⟨B, 0, none⟩ = some (.iface 26 (Pq P)) ∧ w'.cell? ⟨B, 1, none⟩ = some (.int .i64 a))
     (first | exact ⟨e0, e1⟩ | exact ⟨k0, k1⟩ | assumption | go_keep)
     (first | (go_at_call 132; ((with_reducible refine (HK.out _ HB2.out.drew).mono ?_); rintro _ w4 ⟨rfl, hb4⟩; have hb4' := ((Below.refl W2.heap.size W2).drew).trans hb4; have HX4 := Lib.hid (HX2.out.below hb4'); have k0 := HX4.out.c0; have k1 := HX4.out.c1; have HR4 := Lib.hid (show RowR w4 Rb from (hb4'.block Rb HR2.out.lt).trans HR2.out); have HB4 := Lib.hid (HB2.out.trans (hb4'.mono HB2.out.size)))))
    all_goals
     obtain ⟨r0, r1, r2, rz⟩ := HR4.out.facts
     have z0 := rz 0
     have z1 := rz 1
     have z2 := rz 2
     have HS := Lib.hid (fun p q u => box_set3 (t := 212) (m := (0, 0)) (B := Rb) hRl HR4.out HB4.out p q u)
     clear rz
     go_wp2_with fail
     obtain ⟨hx, hy⟩ := HS.out _ _ _
     refine bodyPost_ret (results_row_tmp rfl _ _ Rb _ _ rfl hx Tryz.underlying212 (by rfl) (by rfl)) rfl ?_
     exact ⟨by rw [HF.out]; rfl, hy⟩
   rw [hk] at HK
   go_wp2_with fail
   go_region_held3 (fun w' => w'.cell? ⟨B, 0, none⟩ = some (.iface 26 (Pq P)) ∧ w'.cell? ⟨B, 1, none⟩ = some (.int .i64 a))
    (first | exact ⟨e0, e1⟩ | exact ⟨k0, k1⟩ | assumption | go_keep)
    (first | (go_at_call 132; ((with_reducible refine (HK.out _ HB2.out.drew).mono ?_); rintro _ w4 ⟨rfl, hb4⟩; have hb4' := ((Below.refl W2.heap.size W2).drew).trans hb4; have HX4 := Lib.hid (HX2.out.below hb4'); have k0 := HX4.out.c0; have k1 := HX4.out.c1; have HR4 := Lib.hid (show RowR w4 Rb from (hb4'.block Rb HR2.out.lt).trans HR2.out); have HB4 := Lib.hid (HB2.out.trans (hb4'.mono HB2.out.size)))))
   all_goals
    by_cases h2 : XN = wk.dot2
    ·have p2 : (XN.toList == [46, 46]) = true := by rw [HD2.out, decide_eq_true h2]
     have HPa := Lib.hid (fun W (hb : Below w0.heap.size w0 W) => HC.out.parent W a hb)
     unfold RetI at HPa
     have HRR2 := Lib.hid (show walkT (trS S) fol m (S.parentOf a) (nsB r) d = R by rw [← HRX.out, h2]; exact (w_dots hk).symm)
     generalize S.parentOf a = pa2 at HPa HRR2
     clear h2 hk
     go_wp2_with fail
     go_region_with ((go_at_call 251; (refine (HPa.out _ HB4.out.drew).mono ?_; rintro _ w5 ⟨rfl, hb5⟩; have hb5' := ((Below.refl w4.heap.size w4).drew).trans hb5; have HX5 := Lib.hid (HX4.out.below hb5'); have HB5 := Lib.hid (HB4.out.trans (hb5'.mono HB4.out.size)); have HR5 := Lib.hid (show RowR w5 Rb from (hb5'.block Rb HR4.out.lt).trans HR4.out); have y1 := HX5.out.fz 1; have y1c := HX5.out.c1)))
     all_goals
      go_wp2_with fail
      go_roundg (m * 401 + r.length)
      case measure => have := HGK.out; omega
      case rel => exact ⟨m, pa2, _, _, r, d, rfl, by omega, by rw [HQ.out]; omega, HRR2, Lib.hid (HX5.out.sa pa2), Lib.hid (below_only HB5.out (only_cell _ _ _ _) hB), Lib.hid (HR5.out.only hne (only_cell _ _ _ _))⟩
    have p2 : (XN.toList == [46, 46]) = false := by rw [HD2.out, decide_eq_false h2]
    by_cases h1 : XN = wk.dot1
    ·have p1 : (XN.toList == [46]) = true := by rw [HD1.out, decide_eq_true h1]
     have HRR2 := Lib.hid (show walkT (trS S) fol m a (nsB r) d = R by rw [← HRX.out, h1]; exact (w_dot hk).symm)
     clear h2 h1 hk
     go_wp2_with fail
     go_roundg (m * 401 + r.length)
     case measure => have := HGK.out; omega
     case rel => exact ⟨m, a, _, _, r, d, rfl, by omega, by rw [HQ.out]; omega, HRR2, HX4, HB4, HR4⟩
    have p1 : (XN.toList == [46]) = false := by rw [HD1.out, decide_eq_false h1]
    obtain ⟨lb, hlb⟩ : ∃ lb, decide (q = 0) = lb := ⟨_, rfl⟩
    have HLB := Lib.hid hlb
    have hqb : ((q : Int) == 0) = lb := by rw [← hlb]; by_cases e : q = 0 <;> simp [e]
    have k2 : w4.cell? ⟨B, 2, none⟩ = some (.slice (some ad') q c') := by have := HX4.out.c2; rw [HQ.out] at this; exact this
    have hmf : ∀ (fn : Fn) (first cap : Array Value) (W : World), (Instr.makeFunc fn first cap).run Tryz.prog W = .ok (.func fn first cap) W := fun _ _ _ _ => rfl
    have hng := n_get P
    obtain ⟨gv, hgv⟩ : ∃ gv, S.get a XN = gv := ⟨_, rfl⟩
    have HGV := Lib.hid hgv
    have HLK := Lib.hid (fun W (hb : Below w0.heap.size w0 W) => look_any (w := W) (P := P) (a := a) (n := XN) (g := S.get a XN) lb (fun w2 hb2 => HC.out.get w2 a XN (hb.trans (hb2.mono hb.size))))
    rw [hgv] at HLK
    have HER := Lib.hid (fun (h3 : gv.2 ≠ 0) => (show walkT (trS S) fol m a (XN :: nsB r) d = lookR a XN lb gv by rw [lookR_err hk h2 h1 (by rw [hgv]; exact h3), hgv, ← hlb, HQ.out]))
    obtain ⟨gi, ge⟩ := gv
    have lB4 := HX4.out.lt
    unfold RetW FoundV at HLK
    clear hlb hgv
    obtain ⟨lr, hlr⟩ : ∃ lr, lookR a XN lb (gi, ge) = lr := ⟨_, rfl⟩
    have HLR := Lib.hid hlr
    rw [hlr] at HLK HER
    clear hlr
    obtain ⟨⟨fa, fn, fi⟩, fe⟩ := lr
    dsimp only at HLK
    go_upto_region 11 with fail
    go_cut [6, 7] from 10 to 140 (fun v6 v7 wx => ∃ G, v6 = .pointer (some ⟨G, 0, none⟩) ∧ v7 = .int .i64 fe ∧ Hid (Below w4.heap.size w4 wx) ∧ Hid (wx.rangeAt G 0 [.int .i64 fa, .string fn, .int .i64 fi]) ∧ Hid (w4.heap.size ≤ G))
    case first =>
     have HBA := Lib.hid (fun ob => dn.below_step HB4.out (dn.below_alloc w4 ob))
     have HAB := Lib.hid (fun ob => dn.below_alloc w4 ob)
     have HXA := Lib.hid (fun ob => HX4.out.below (dn.below_alloc w4 ob))
     have ja0 : (w4.alloc (.cells #[.int .i64 0, .string ⟨#[]⟩, .int .i64 0] 212)).cell? ⟨B, 0, none⟩ = some (.iface 26 (Pq P)) := (HXA.out _).c0
     have ja1 : (w4.alloc (.cells #[.int .i64 0, .string ⟨#[]⟩, .int .i64 0] 212)).cell? ⟨B, 1, none⟩ = some (.int .i64 a) := (HXA.out _).c1
     go_region_held3 (fun w' => w'.cell? ⟨B, 0, none⟩ = some (.iface 26 (Pq P)) ∧ w'.cell? ⟨B, 1, none⟩ = some (.int .i64 a))
      (first | exact ⟨k0, k1⟩ | exact ⟨j0, j1⟩ | exact ⟨ja0, ja1⟩ | exact ⟨jt0, jt1⟩ | assumption | go_keep)
      (first | (go_at_call 207; ((with_reducible refine (HLK.out _ HB4.out.drew).mono ?_); rintro _ w5 ⟨rfl, hb5⟩; have hb5' := ((Below.refl w4.heap.size w4).drew).trans hb5; have HX5 := Lib.hid (HX4.out.below hb5'); have j0 := HX5.out.c0; have j1 := HX5.out.c1; have HFE := Lib.hid (show ∃ G, w5.heap.size = G ∧ Below w4.heap.size w4 (w5.alloc (.cells #[.int .i64 fa, .string fn, .int .i64 fi] 212)) ∧ (w5.alloc (.cells #[.int .i64 fa, .string fn, .int .i64 fi] 212)).rangeAt G 0 [.int .i64 fa, .string fn, .int .i64 fi] ∧ w4.heap.size ≤ G from ⟨_, rfl, dn.below_step hb5' (dn.below_alloc w5 _), range3 (by simp) (by simp) (by simp), hb5'.size⟩))) | (go_at_call 207; ((with_reducible refine (HLK.out _ (HBA.out (.cells #[.int .i64 0, .string ⟨#[]⟩, .int .i64 0] 212)).drew).mono ?_); rintro _ w5 ⟨rfl, hb5⟩; have hb5' := ((Below.refl (w4.alloc (.cells #[.int .i64 0, .string ⟨#[]⟩, .int .i64 0] 212)).heap.size (w4.alloc (.cells #[.int .i64 0, .string ⟨#[]⟩, .int .i64 0] 212))).drew).trans hb5; have HX5 := Lib.hid ((HXA.out (.cells #[.int .i64 0, .string ⟨#[]⟩, .int .i64 0] 212)).below hb5'); have j0 := HX5.out.c0; have j1 := HX5.out.c1; have hrw5 := (hb5'.block w4.heap.size (by rw [World.size_alloc]; omega)).trans (heap_alloc_new w4 (.cells #[.int .i64 0, .string ⟨#[]⟩, .int .i64 0] 212)); have x0 : w5.cell? ⟨w4.heap.size, 0, none⟩ = some (.int .i64 0) := (by rw [cell_row hrw5]; rfl); have x1 : w5.cell? ⟨w4.heap.size, 1, none⟩ = some (.string ⟨#[]⟩) := (by rw [cell_row hrw5]; rfl); have x2 : w5.cell? ⟨w4.heap.size, 2, none⟩ = some (.int .i64 0) := (by rw [cell_row hrw5]; rfl); have y0 : w5.frozen? ⟨w4.heap.size, 0, none⟩ = false := (by simp [World.frozen?, hrw5]); have y1 : w5.frozen? ⟨w4.heap.size, 1, none⟩ = false := (by simp [World.frozen?, hrw5]); have y2 : w5.frozen? ⟨w4.heap.size, 2, none⟩ = false := (by simp [World.frozen?, hrw5]); have HFG := Lib.hid (box_set3 (w := w4) (t := 212) (m := (0, 0)) (Nat.le_refl _) hrw5 (dn.below_step (HAB.out _) hb5') (.int .i64 fa) (.string fn) (.int .i64 fi)); have jt0 := (oth3 (w := w5) (G := w4.heap.size) (B := B) (j := 0) (by omega) (.int .i64 fa) (.string fn) (.int .i64 fi)).trans j0; have jt1 := (oth3 (w := w5) (G := w4.heap.size) (B := B) (j := 1) (by omega) (.int .i64 fa) (.string fn) (.int .i64 fi)).trans j1; clear hrw5)))
     all_goals
      go_wp2_with fail
      go_meet
      case rel => first | exact ⟨_, rfl, rfl, Lib.hid HFG.out.2, Lib.hid HFG.out.1, Lib.hid (Nat.le_refl _)⟩ | (obtain ⟨G, hG, h1, h2, h3⟩ := HFE.out; subst hG; exact ⟨_, rfl, rfl, Lib.hid h1, Lib.hid h2, Lib.hid h3⟩)
    case rest =>
     obtain ⟨G, rfl, rfl, HB46, HFR, HGL⟩ := hcut
     have HX6 := Lib.hid (HX4.out.below HB46.out)
     have HR6 := Lib.hid (show RowR wc Rb from (HB46.out.block Rb HR4.out.lt).trans HR4.out)
     have HB6 := Lib.hid (dn.below_step HB4.out HB46.out)
     have t0 : wc.cell? ⟨G, 0, none⟩ = some (.int .i64 fa) := by simpa using HFR.out 0 _ rfl
     have t1 : wc.cell? ⟨G, 1, none⟩ = some (.string fn) := by simpa using HFR.out 1 _ rfl
     have t2 : wc.cell? ⟨G, 2, none⟩ = some (.int .i64 fi) := by simpa using HFR.out 2 _ rfl
     have hGB : G ≠ B := by have := HGL.out; omega
     have hGR : G ≠ Rb := by have := HGL.out; have := HR4.out.lt; omega
     have HFR' := HFR
     clear k0 k1 k2 HX4 HB4 HLK
     by_cases h3 : ge = 0
     case neg =>
      have HF := Lib.hid (show R = ((fa, fn, fi), fe) by rw [← HRX.out]; exact HER.out h3)
      have hfe : fe ≠ 0 := by
       have := HLR.out
       unfold lookR at this
       rw [if_neg h3] at this
       split at this
       ·injection this with _ e; rw [← e]; decide
       ·injection this with _ e; rw [← e]; exact h3
      have qf : (fe != 0) = true := by simpa using hfe
      clear hfe h3 HER HLR HRX
      obtain ⟨r0, r1, r2, rz⟩ := HR6.out.facts
      have z0 := rz 0
      have z1 := rz 1
      have z2 := rz 2
      have HS := Lib.hid (fun p q u => box_set3 (t := 212) (m := (0, 0)) (B := Rb) hRl HR6.out HB6.out p q u)
      clear rz
      go_wp2_with fail
      obtain ⟨hx, hy⟩ := HS.out _ _ _
      refine bodyPost_ret (results_row_tmp rfl _ _ Rb _ _ rfl hx Tryz.underlying212 (by rfl) (by rfl)) rfl ?_
      exact ⟨by rw [HF.out]; rfl, hy⟩
     subst h3
     obtain ⟨⟨rfl, rfl, rfl⟩, rfl⟩ : ((a = fa ∧ XN = fn ∧ gi = fi) ∧ (0 : Int) = fe) := by
      have := HLR.out
      unfold lookR at this
      rw [if_pos rfl] at this
      simpa only [Prod.mk.injEq] using this
     have HKG := Lib.hid (fun W (hb : Below w0.heap.size w0 W) => HC.out.kind W gi hb)
     unfold RetI at HKG
     obtain ⟨kg, hkg⟩ : ∃ kg, S.kindOf gi = kg := ⟨_, rfl⟩
     have HKE := Lib.hid hkg
     rw [hkg] at HKG
     clear hkg HER HLR
     have k0 := HX6.out.c0
     have lB6 := HX6.out.lt
     have lG6 := World.block_lt_of_cell? _ _ t2
     go_wp2_with fail
     go_region_held3 (fun w' => w'.cell? ⟨B, 0, none⟩ = some (.iface 26 (Pq P)) ∧ w'.cell? ⟨G, 2, none⟩ = some (.int .i64 gi))
      (first | exact ⟨k0, t2⟩ | exact ⟨j0, s2⟩ | assumption | go_keep)
      (first | (go_at_call 132; ((with_reducible refine (HKG.out _ HB6.out.drew).mono ?_); rintro _ w8 ⟨rfl, hb8⟩; have hb8' := ((Below.refl wc.heap.size wc).drew).trans hb8; have HX8 := Lib.hid (HX6.out.below hb8'); have j0 := HX8.out.c0; have s2 := (hb8'.cell (p := ⟨G, 2, none⟩) lG6).trans t2; have s1 := (hb8'.cell (p := ⟨G, 1, none⟩) lG6).trans t1; have s0 := (hb8'.cell (p := ⟨G, 0, none⟩) lG6).trans t0; have HR8 := Lib.hid (show RowR w8 Rb from (hb8'.block Rb HR6.out.lt).trans HR6.out); have HB8 := Lib.hid (dn.below_step HB6.out hb8'))))
     all_goals
      obtain ⟨lk, hlk⟩ : ∃ lk, ((kg == 3) && (!lb || fol || d)) = lk := ⟨_, rfl⟩
      have HLE := Lib.hid hlk
      have j3 := HX8.out.c3
      have j4 := HX8.out.c4
      have j1 := HX8.out.c1
      have y1 := HX8.out.fz 1
      clear hlk k0 t0 t1 t2 HX6 HB6 HR6 HFR HFR' HKG HK HB46 HD1 HD2
      go_upto_region 16 with fail
      go_cut [96] from 10 to 140 (fun v wx => v = .bool lk ∧ wx = w8)
      case first =>
       by_cases e3 : kg = 3
       ·subst e3
        cases lb <;> cases fol <;> cases d
        all_goals
         go_wp2_with fail
         go_meet
         case rel => exact ⟨by rw [← HLE.out]; rfl, rfl⟩
       ·have q3 : (kg == 3) = false := by simpa using e3
        go_wp2_with fail
        go_meet
        case rel => exact ⟨by rw [← HLE.out, q3]; rfl, rfl⟩
      case rest =>
       obtain ⟨rfl, hwc⟩ := hcut
       subst hwc
       have HLN := Lib.hid (show (lk = true ↔ (S.kindOf (S.get a XN).1 = 3 ∧ (r ≠ [] ∨ fol = true ∨ d = true))) by
        rw [HGV.out, ← HLE.out]
        dsimp only
        rw [HKE.out, ← HLB.out, ← HQ.out]
        have : (r.length = 0) ↔ r = [] := by cases r <;> simp
        simp only [Bool.and_eq_true, Bool.or_eq_true, beq_iff_eq, Bool.not_eq_true', decide_eq_false_iff_not, this, or_assoc])
       have hg0 : (S.get a XN).2 = 0 := by rw [HGV.out]
       cases lk with
       | true =>
        have HTW := Lib.hid (thr_walk (m := m) (d := d) hm hk h2 h1 hg0 (HLN.out.1 rfl))
        rw [HGV.out, HRX.out] at HTW
        dsimp only at HTW
        have HTH := Lib.hid (thr_any HX8.out (fun w2 hb => HC.out.target w2 gi (HB8.out.trans (hb.mono HB8.out.size))) ⟨by omega, by omega⟩ (by rw [HQ.out]; omega))
        unfold ThrE at HTH
        generalize thrR ((40 : Int) - m) (S.targetOf gi) r.length = tr at HTW HTH
        clear h1 h2 hk hg0 j0 j1 j3 j4 s0 s1 HX8 y1
        by_cases hz : tr = 0
        ·subst hz
         obtain ⟨k, rfl, hln, hww⟩ := HTW.out.2 rfl
         have HWW := Lib.hid hww
         have HLL := Lib.hid hln
         clear hln hww
         go_wp2_with fail
         refine HTH.out.mono ?_
         rintro _ w9 ⟨rfl, ho9, hok9⟩
         obtain ⟨A9, c9, hx9⟩ := hok9 trivial
         rw [show (40 : Int) - ((k + 1 : Nat) : Int) + 1 = 40 - (k : Int) by omega] at hx9
         have HX9 := Lib.hid hx9
         have HR9 := Lib.hid (HR8.out.only hne ho9)
         have HB9 := Lib.hid (below_only HB8.out ho9 hB)
         clear hx9 hok9 ho9
         go_wp2_with fail
         go_roundg (k * 401 + (pa.pnames (S.targetOf gi).1.data.toList ++ r).length)
         case measure => have := HGK.out; have := HLL.out; omega
         case rel => exact ⟨k, _, A9, c9, _, _, rfl, by omega, HLL.out, Lib.hid HWW.out.symm, HX9, HB9, HR9⟩
        ·have qz : (tr != 0) = true := by simpa using hz
         have HF := Lib.hid (HTW.out.1 hz)
         clear hz
         go_wp2_with fail
         refine HTH.out.mono ?_
         rintro _ w9 ⟨rfl, ho9, -⟩
         have HR9 := Lib.hid (HR8.out.only hne ho9)
         have HB9 := Lib.hid (below_only HB8.out ho9 hB)
         clear ho9
         obtain ⟨r0, r1, r2, rz⟩ := HR9.out.facts
         have z0 := rz 0
         have z1 := rz 1
         have z2 := rz 2
         have HS := Lib.hid (fun p q u => box_set3 (t := 212) (m := (0, 0)) (B := Rb) hRl HR9.out HB9.out p q u)
         clear rz
         go_wp2_with fail
         obtain ⟨hx, hy⟩ := HS.out _ _ _
         refine bodyPost_ret (results_row_tmp rfl _ _ Rb _ _ rfl hx Tryz.underlying212 (by rfl) (by rfl)) rfl ?_
         exact ⟨by rw [HF.out]; rfl, hy⟩
       | false =>
        have hnl : ¬ wk.Lnk (trS S) fol a XN (nsB r) d := fun e => by
         have := HLN.out.2 ⟨e.1, e.2.imp (fun e e1 => e (nsB_nil.2 e1)) id⟩
         cases this
        have HNL := Lib.hid hnl
        clear hnl
        by_cases hq0 : q = 0
        ·have hr0 : r = [] := by have := HQ.out; rw [hq0] at this; exact List.length_eq_zero_iff.1 this
         have hlb1 : lb = true := by rw [← HLB.out]; exact decide_eq_true hq0
         subst hlb1
         have hkk : (trS S).kind ((trS S).get a XN).1 = kg := by show S.kindOf (S.get a XN).1 = kg; rw [HGV.out]; exact HKE.out
         have hll := w_last (X := trS S) (fol := fol) (m := m) (d := d) hk h2 h1 hg0 (by have := HNL.out; rw [hr0] at this; exact this)
         rw [hkk] at hll
         have hRR : R = if d = true ∧ kg ≠ 2 then (wk.r0, 20) else ((a, XN, gi), 0) := by
          rw [← HRX.out, hr0]
          show walkT (trS S) fol m a [XN] d = _
          rw [hll]
          show (if d = true ∧ kg ≠ 2 then (wk.r0, 20) else ((a, XN, (S.get a XN).1), 0)) = _
          rw [HGV.out]
         have HRR := Lib.hid hRR
         clear hll hkk hRR hr0 h1 h2 hk hg0 j0 j1 j4 y1
         by_cases hd2 : d = true ∧ kg ≠ 2
         ·have HF := Lib.hid (show R = (wk.r0, 20) by rw [HRR.out, if_pos hd2])
          obtain ⟨rfl, hk2⟩ := hd2
          have qk : (kg != 2) = true := by simpa using hk2
          clear hk2
          obtain ⟨r0, r1, r2, rz⟩ := HR8.out.facts
          have z0 := rz 0
          have z1 := rz 1
          have z2 := rz 2
          have HS := Lib.hid (fun p q u => box_set3 (t := 212) (m := (0, 0)) (B := Rb) hRl HR8.out HB8.out p q u)
          clear rz
          go_wp2_with fail
          obtain ⟨hx, hy⟩ := HS.out _ _ _
          refine bodyPost_ret (results_row_tmp rfl _ _ Rb _ _ rfl hx Tryz.underlying212 (by rfl) (by rfl)) rfl ?_
          exact ⟨by rw [HF.out]; rfl, hy⟩
         ·have HF := Lib.hid (show R = ((a, XN, gi), 0) by rw [HRR.out, if_neg hd2])
          have qq : d = false ∨ (d = true ∧ (kg != 2) = false) := by
           cases d
           ·exact .inl rfl
           ·refine .inr ⟨rfl, ?_⟩
            have : kg = 2 := Classical.byContradiction fun e => hd2 ⟨rfl, e⟩
            rw [this]; rfl
          clear hd2
          rcases qq with rfl | ⟨rfl, qk⟩
          all_goals
           obtain ⟨r0, r1, r2, rz⟩ := HR8.out.facts
           have z0 := rz 0
           have z1 := rz 1
           have z2 := rz 2
           have HS := Lib.hid (fun p q u => box_set3 (t := 212) (m := (0, 0)) (B := Rb) hRl HR8.out HB8.out p q u)
           clear rz
           go_wp2_with fail
           obtain ⟨hx, hy⟩ := HS.out _ _ _
           refine bodyPost_ret (results_row_tmp rfl _ _ Rb _ _ rfl hx Tryz.underlying212 (by rfl) (by rfl)) rfl ?_
           exact ⟨by rw [HF.out]; rfl, hy⟩
        ·have hlb1 : lb = false := by rw [← HLB.out]; exact decide_eq_false hq0
         subst hlb1
         have hr0 : nsB r ≠ [] := fun e => by have e1 := nsB_nil.1 e; have := HQ.out; rw [e1] at this; exact hq0 this.symm
         have HON := Lib.hid (show walkT (trS S) fol m gi (nsB r) d = R by
          have := w_on (X := trS S) (fol := fol) (m := m) (d := d) hk h2 h1 hg0 HNL.out hr0
          rw [← HRX.out, this]
          show _ = walkT (trS S) fol m (S.get a XN).1 (nsB r) d
          rw [HGV.out])
         clear h1 h2 hk hg0 hr0 hq0 j0 j3 j4 s0 s1
         go_wp2_with fail
         go_roundg (m * 401 + r.length)
         case measure => have := HGK.out; omega
         case rel => exact ⟨m, gi, _, _, r, d, rfl, by omega, by rw [HQ.out]; omega, HON, Lib.hid (HX8.out.sa gi), Lib.hid (below_only HB8.out (only_cell _ _ _ _) hB), Lib.hid (HR8.out.only hne (only_cell _ _ _ _))⟩
end Go.Proofs.YtpmpbmjjlccbbaaGreat.cb
