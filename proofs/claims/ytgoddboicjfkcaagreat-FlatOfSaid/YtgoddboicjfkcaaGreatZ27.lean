/- Part 27 of what is known of the program's functions and of the document's words: contracts, and the mathematics beneath them. -/
import Derived.Test.YtgoddboicjfkcaaGreatProg
import Derived.Test.YtgoddboicjfkcaaGreatZ26
import Derived.Test.YtgoddboicjfkcaaGreatZ20
import Derived.ProofKit
import Derived.ChangeSlices
import Derived.SliceStrings
import Derived.Deep.Slices
import Derived.Deep.Fields
import Derived.Lib.SmallJoins
import Derived.OpenShut
import Derived.ChangeSame
set_option linter.unusedVariables false
set_option linter.unusedSimpArgs false
set_option maxRecDepth 100000
set_option maxHeartbeats 8000000
namespace Go.Proofs.YtgoddboicjfkcaaGreat.mg
open Go.Shelf Go.RowKit Go.Lib Go.Sort
open dn (lessB)
theorem heap_putRow {α : Type} [Inhabited α] (enc : α → Value) (w : World) (blk off : Nat) (d : Array α) {k : Nat} (h : k ≠ blk) : (putRow enc w blk off d).heap[k]? = w.heap[k]? := by
 unfold putRow mapBlock
 simp [Array.getElem?_modify, h.symm]
def SortE (w : World) (lo : Nat) (A : Option Addr) (ns : List ByteArray) (e : Ending) (w' : World) : Prop :=
 ∃ l : List ByteArray, e = .returned (.tuple #[]) ∧ l.Perm ns ∧ (l.Pairwise fun a b => lessB b a = false) ∧ NR w' lo A l ∧ Below lo w w'
theorem pair_few {ns : List ByteArray} (h : ns.length ≤ 1) : ns.Pairwise fun a b => lessB b a = false := by
 match ns, h with
 | [], _ => exact List.Pairwise.nil
 | [x], _ => exact List.pairwise_singleton _ _
 | x :: y :: r, h => simp at h
theorem sort_any {w : World} {lo gq c : Nat} {A : Option Addr} {ns : List ByteArray} (hN : NR w lo A ns) (hl : ns.length ≤ 8000) (hB : w.cell? ⟨gq, 0, none⟩ = some (.slice A ns.length c)) (hg : gq < lo) (hlo : lo ≤ w.heap.size) :
  Calls Tryz.prog 79 #[.iface 43 (.slice A ns.length c), .func (.func 80) #[] #[.pointer (some ⟨gq, 0, none⟩)]] w (SortE w lo A ns) := by
 by_cases h1 : ns.length ≤ 1
 ·refine (sort_few A ns.length c h1 _ w).mono ?_
  rintro e w' ⟨rfl, os, rfl⟩
  refine ⟨ns, rfl, List.Perm.refl _, pair_few h1, hN.same (by simp) (fun b _ hb => heap_grow_old w os hb), ⟨rfl, rfl, rfl, by simp, fun k hk => heap_grow_old w os (by omega)⟩⟩
 ·have h0 : ns[0]? = some ns[0] := List.getElem?_eq_getElem (by omega)
  obtain ⟨G, hA, hG1, hG2, _, _⟩ := hN 0 _ h0
  subst hA
  have hsz : ns.toArray.size = ns.length := by simp
  have hH : Holds Value.string w G 0 ns.toArray := fun j hj => by
   rw [hsz] at hj
   obtain ⟨G', e, _, _, h3, h4⟩ := hN j _ (List.getElem?_eq_getElem hj)
   injection e with e
   injection e with e
   subst e
   rw [Nat.zero_add]
   refine ⟨?_, h4⟩
   rw [h3, getElem!_pos _ j (by rw [hsz]; exact hj)]
   simp
  have hS := sort_more G 0 c gq ns.toArray (by rw [hsz]; omega) (by rw [hsz]; omega) w (by rw [hsz]; exact hB) (by omega) hH hG2
  rw [hsz] at hS
  refine hS.mono ?_
  rintro e w' ⟨rfl, d', n, os, hp, hso, rfl⟩
  obtain ⟨p1, _, p3⟩ := hp
  rw [hsz] at p1
  have hH2 : Holds Value.string (grow (putRow Value.string (Sort.ahead w n) G 0 d') os) G 0 d' := holds_grow _ _ _ _ _ _ (by rw [size_putRow]; exact hG2) (holds_putRow _ _ _ _ ns.toArray _ (holds_ahead _ _ _ _ _ _ hH) (by rw [hsz]; exact p1))
  refine ⟨d'.toList, rfl, ?_, ?_, ?_, ?_⟩
  ·have e1 : d'.extract 0 ns.length = d' := by rw [← p1]; simp
   have e2 : ns.toArray.extract 0 ns.length = ns.toArray := by rw [← hsz]; simp
   rw [e1, e2] at p3
   simpa using p3
  ·rw [List.pairwise_iff_getElem]
   intro i j hi hj hij
   have := hso i j (Nat.zero_le _) hij (by simpa [p1] using hj)
   rw [getElem!_pos _ j (by simpa using hj), getElem!_pos _ i (by simpa using hi)] at this
   simpa using this
  ·intro k x hx
   have hk : k < d'.size := by have := (List.getElem?_eq_some_iff.1 hx).1; simpa using this
   obtain ⟨h3, h4⟩ := hH2 k hk
   rw [Nat.zero_add] at h3 h4
   refine ⟨G, rfl, hG1, by rw [size_grow, size_putRow]; show G < w.heap.size + _; omega, ?_, h4⟩
   rw [h3, getElem!_pos _ k hk]
   have : d'[k] = x := by
    have h5 := (List.getElem?_eq_some_iff.1 hx).2
    simpa using h5
   rw [this]
  ·refine ⟨rfl, rfl, rfl, by rw [size_grow, size_putRow]; show w.heap.size ≤ w.heap.size + _; omega, fun k hk => ?_⟩
   rw [heap_grow_old _ _ (by rw [size_putRow]; show k < w.heap.size; omega), heap_putRow _ _ _ _ _ (by omega)]
   rfl
end Go.Proofs.YtgoddboicjfkcaaGreat.mg
namespace Go.Proofs.YtgoddboicjfkcaaGreat.mg
open Go.RowKit Go.Sort
open dn (En lget lset ldel nerr dotB Sorted lessB)
open br (BS Ino Inv fresh)
open cb (BrX RetW RetI No)
open bl (Pq Only)
theorem nodup_le {α : Type} [DecidableEq α] : ∀ (ns l : List α), ns.Nodup → (∀ x, x ∈ ns → x ∈ l) → ns.length ≤ l.length
 | [], _, _, _ => Nat.zero_le _
 | a :: ns, l, hn, hs => by
  have h1 := List.nodup_cons.1 hn
  have ha : a ∈ l := hs a List.mem_cons_self
  have h2 := nodup_le ns (l.erase a) h1.2 fun x hx => (List.mem_erase_of_ne (fun e => h1.1 (by rw [← e]; exact hx))).2 (hs x (List.mem_cons_of_mem _ hx))
  rw [List.length_erase_of_mem ha] at h2
  have := List.length_pos_of_mem ha
  simp only [List.length_cons]
  omega
theorem Coll.len {U L : BS} {n : Nd} {r1 r2 : Nat} {left : ByteArray → Bool} {ns : List ByteArray} (hU : Inv U r1) (hL : Inv L r2) (h : Coll U L (pairF U L n) left ns) : ns.length ≤ 8000 := by
 have h1 := nodup_le ns ((U.all n.1).1.map (·.1) ++ (L.all (belV U n)).1.map (·.1)) h.nd fun s hs => by
  obtain ⟨⟨p, e, _⟩, _⟩ := (h.mem s).1 hs
  unfold pairF at e
  rw [fold2 _ _ _ (all_sorted hL _), fold1 _ _ _ (all_sorted hU _)] at e
  rw [List.mem_append]
  cases e1 : lget s (L.all (belV U n)).1 with
  | some v =>
   right
   have := (dn.lget_some (all_sorted hL _)).1 e1
   exact List.mem_map.2 ⟨_, this, rfl⟩
  | none =>
   rw [e1] at e
   cases e2 : lget s (U.all n.1).1 with
   | some v =>
    left
    have := (dn.lget_some (all_sorted hU _)).1 e2
    exact List.mem_map.2 ⟨_, this, rfl⟩
   | none => rw [e2] at e; cases e
 have h2 := all_len hU n.1
 have h3 := all_len hL (belV U n)
 simp only [List.length_append, List.length_map] at h1
 omega
structure QB (w : World) (g : Nat) (v : Value) : Prop where
 c : w.cell? ⟨g, 0, none⟩ = some v
 f : w.frozen? ⟨g, 0, none⟩ = false
theorem QB.same {w w' : World} {g : Nat} {v : Value} (h : QB w g v) (e : w'.heap[g]? = w.heap[g]?) : QB w' g v := ⟨(World.cell?_of_block (a := ⟨g, 0, none⟩) e).trans h.c, (World.frozen?_of_block (a := ⟨g, 0, none⟩) e).trans h.f⟩
theorem QB.lt {w : World} {g : Nat} {v : Value} (h : QB w g v) : g < w.heap.size := World.block_lt_of_cell? _ _ h.c
theorem QB.below {w w' : World} {g : Nat} {v : Value} (h : QB w g v) (hb : Below w.heap.size w w') : QB w' g v := h.same (hb.block g h.lt)
theorem QB.grown {w w' : World} {g : Nat} {v : Value} {row : Option Nat} (h : QB w g v) (hg : w.grownBy w' row) (hr : row ≠ some g) : QB w' g v := h.same (hg.block g h.lt hr.symm)
theorem QB.set {w : World} {g : Nat} {v : Value} (h : QB w g v) (u : Value) : QB (w.setCell ⟨g, 0, none⟩ u) g u := ⟨World.cell?_setCell_same' _ _ _ (by rw [h.c]; rfl), by simp [h.f]⟩
theorem grown_bel {w0 w w' : World} {row : Option Nat} (hb : Below w0.heap.size w0 w) (hg : w.grownBy w' row) (hr : ∀ k, row = some k → w0.heap.size ≤ k) : Below w0.heap.size w0 w' := hb.grown hg hb.size hr
theorem Ow.row {w : World} {B : Nat} {v : Value} {ns : List ByteArray} (h : Ow w B v ns) : ∀ k, v.ownBlock = some k → B ≤ k := fun k hk => (World.ownsRow.lt h k hk).1
theorem Ow.of {w : World} {B : Nat} {v : Value} {ns : List ByteArray} {x : ByteArray} (h : w.ownsRow B 9 1 v (ns.length + 1) (ns.map Value.string ++ [.string x])) : Ow w B v (ns ++ [x]) := by unfold Ow; rw [List.length_append, List.map_append]; exact h
structure LW (w wr : World) (gq B : Nat) (v : Value) (ns : List ByteArray) : Prop where
 ow : Ow wr B v ns
 qb : QB wr gq v
 bel : Below w.heap.size w wr
 hB : B ≤ wr.heap.size
 gl : gq < B
 gw : w.heap.size ≤ gq
theorem LW.below {w wr w' : World} {gq B : Nat} {v : Value} {ns : List ByteArray} (h : LW w wr gq B v ns) (hb : Below wr.heap.size wr w') : LW w w' gq B v ns :=
 ⟨h.ow.below hb, h.qb.below hb, bel_step h.bel hb, Nat.le_trans h.hB hb.size, h.gl, h.gw⟩
theorem LW.next {w wr w' : World} {gq B r : Nat} {v : Value} {ns : List ByteArray} (h : LW w wr gq B v ns) (hg : wr.grownBy w' (some r)) (hr : r < B) (h0 : gq < r) : LW w w' gq B v ns :=
 ⟨h.ow.grown hg hr, h.qb.grown hg (fun e => by injection e with e; omega), grown_bel h.bel hg (fun k e => by injection e with e; have := h.gw; omega), Nat.le_trans h.hB hg.size, h.gl, h.gw⟩
theorem LW.app {w wr w' : World} {gq B : Nat} {v v' : Value} {ns ns' : List ByteArray} (h : LW w wr gq B v ns) (hg : wr.grownBy w' v.ownBlock) (ho : Ow w' B v' ns') : LW w (w'.setCell ⟨gq, 0, none⟩ v') gq B v' ns' := by
 have hr := h.ow.row
 have hq : QB w' gq v := h.qb.grown hg (fun e => by have := hr _ e; have := h.gl; omega)
 have hb : Below w.heap.size w w' := grown_bel h.bel hg (fun k e => by have := hr _ e; have := h.gl; have := h.gw; omega)
 exact ⟨ho.grown (grown_set w' gq 0 v') h.gl, hq.set v', set_below hb h.gw _, by rw [set_size]; exact Nat.le_trans h.hB hg.size, h.gl, h.gw⟩
theorem all_any {w : World} {V P1 P2 : Nat} {u l : Int} {U L : BS} {r1 r2 : Nat} (h : Vx w V P1 P2 u l U L) (hU : Inv U r1) (hL : Inv L r2) (n : Nd) : Calls Tryz.prog 21 #[Pq V, Nv n] w (AllE w U L n) := by
 obtain ⟨n1, n2⟩ := n
 obtain ⟨w1, hw1⟩ : ∃ w1, w.alloc (.cells #[.int .i64 n1, .int .i64 n2] 24) = w1 := ⟨_, rfl⟩
 have hb1 : Below w.heap.size w w1 := by rw [← hw1]; exact bel_alloc _ _
 have hn1 : Nb w1 w.heap.size (n1, n2) := by rw [← hw1]; exact Nb.new w n1 n2
 have HB1 := Lib.hid hb1
 have HN1 := Lib.hid hn1
 have HVX := Lib.hid (fun W (hb : Below w.heap.size w W) => h.below hb)
 have HLS := Lib.hid (listed_any (h.below hb1) (n1, n2))
 have HPR := Lib.hid (fun W (hb : Below w.heap.size w W) => pairs_any (h.below hb) hU hL (n1, n2))
 have HSN := Lib.hid (fun W p (hb : Below w.heap.size w W) => seen_any (h.below hb) p)
 have HIN := Lib.hid (And.intro hU hL)
 have HDO := Lib.hid (show ∀ (W : World) (A : Option Addr) (c : Nat) (ll : List ByteArray), AllV U L (n1, n2) ll → NR W w.heap.size A ll → ll.length ≤ c → c ≤ maxLen → ll.length ≤ 8000 → Below w.heap.size w W → AllE w U L (n1, n2) (.returned (.tuple #[.slice A ll.length c, .int .i64 (lstV U L (n1, n2))])) W from fun W A c ll a1 a2 a3 a4 a5 a6 => ⟨A, c, ll, rfl, a1, a2, a3, a4, a5, a6⟩)
 unfold RetI at HLS
 unfold PairsE at HPR
 obtain ⟨pf, hpf⟩ : ∃ pf, pairF U L (n1, n2) = pf := ⟨_, rfl⟩
 rw [hpf] at HPR
 have HPF := Lib.hid hpf
 clear hpf
 unfold RetW at HSN
 obtain ⟨le, hle⟩ : ∃ le, lstV U L (n1, n2) = le := ⟨_, rfl⟩
 rw [hle] at HLS HDO
 have HLE := Lib.hid hle
 clear h hU hL hb1 hn1 hle
 obtain ⟨g, hg⟩ : ∃ g, w.heap.size = g := ⟨_, rfl⟩
 have HGB := Lib.hid hg
 rw [hg] at HN1
 obtain ⟨t0, t1⟩ := HN1.out
 dsimp only at t0 t1
 go_enter Tryz.func21, Tryz.ntmps21
 go_wp2_with fail
 refine HLS.out.mono ?_
 rintro _ w2 ⟨rfl, hb2⟩
 have HB2 := Lib.hid (bel_step HB1.out hb2)
 have HN2 := Lib.hid (HN1.out.below hb2)
 clear hw1 hb2 HB1 HN1 t0 t1 HLS
 by_cases e0 : le = 0
 case neg =>
  have q0 : (le != 0) = true := by simpa using e0
  have HV0 := Lib.hid (AllV.none (U := U) (L := L) (n := (n1, n2)) (by rw [HLE.out]; exact e0))
  go_wp2_with fail
  go_ret2
  exact HDO.out w2 none 0 [] HV0.out (NR.nil _ _ _) (Nat.le_refl _) (by unfold maxLen; omega) (Nat.zero_le _) HB2.out
 subst e0
 obtain ⟨w3, hw3⟩ : ∃ w3, w2.alloc (.cells #[.slice none 0 0] 43) = w3 := ⟨_, rfl⟩
 have HB3 := Lib.hid (show Below w.heap.size w w3 by rw [← hw3]; exact bel_step HB2.out (bel_alloc _ _))
 have HN3 := Lib.hid (show Nb w3 g (n1, n2) by rw [← hw3]; exact HN2.out.below (bel_alloc _ _))
 have HQ3 := Lib.hid (show QB w3 w2.heap.size (.slice none 0 0) by rw [← hw3]; exact ⟨by simp, by simp⟩)
 obtain ⟨gq, hgq⟩ : ∃ gq, w2.heap.size = gq := ⟨_, rfl⟩
 have HGQ := Lib.hid (show w.heap.size ≤ gq ∧ w3.heap.size = gq + 1 by rw [← hw3, World.size_alloc, hgq]; exact ⟨by have := HB2.out.size; omega, rfl⟩)
 rw [hgq] at HQ3
 obtain ⟨t0, t1⟩ := HN3.out
 dsimp only at t0 t1
 have HP3 := Lib.hid (HPR.out _ HB3.out)
 clear HPR HN2 HB2
 go_wp2_with fail
 refine HP3.out.mono ?_
 rintro _ w4 ⟨M, S, rfl, hm4, hM4, hb4⟩
 obtain ⟨r, hr⟩ : ∃ r, w4.heap.size = r := ⟨_, rfl⟩
 have HR4 := Lib.hid hr
 have HMV := Lib.hid hm4
 have HQ4 := Lib.hid (HQ3.out.below hb4)
 have HB4 := Lib.hid (bel_step HB3.out hb4)
 have HGM := Lib.hid (show gq < M ∧ M < r by have := HGQ.out.2; have := hm4.lt; omega)
 clear hw3 hm4 hM4 hb4 HP3 HB3 HN3 HQ3 t0 t1 hgq hr
 go_wp2_with (first | (at_range; refine list_rangeN _ rfl _ rfl M S _ rfl r HR4.out HMV.out ?_; intro w5 cnt0 hrg0 hb5 hs5) | fail)
 go_frame
 have HW5 := Lib.hid (show LW w w5 gq (r + 1) (.slice none 0 0) [] from ⟨World.ownsRow_nil _ _ _ _, HQ4.out.below hb5, bel_step HB4.out hb5, by omega, by have := HGM.out; omega, HGQ.out.1⟩)
 have HC5 := Lib.hid (Coll.start U L pf)
 have HM5 := Lib.hid hrg0
 have HG5 := Lib.hid (show gq < M ∧ M < r from HGM.out)
 clear hrg0 hb5 hs5 HR4 HMV HQ4 HB4 HGM HGQ
 go_loopg [20] cnt0 (fun g' _ wr => ∃ (v : Value) (ns : List ByteArray) (left : ByteArray → Bool), Hid (MapRN wr M r S pf left g') ∧ Hid (Coll U L pf left ns) ∧ Hid (LW w wr gq (r + 1) v ns))
 case atStart => exact ⟨_, _, _, HM5, HC5, HW5⟩
 case round =>
  clear HM5 HC5 HW5
  obtain ⟨v, ns, left, HM, HC, HW⟩ := hrel
  go_wp2_with (first | (at_next; refine list_nextN _ rfl _ rfl M r S gk pf left rfl HM.out ?_ ?_) | fail)
  ·intro h0
   have HA := Lib.hid (fun ll => Coll.all (l := ll) (n := (n1, n2)) HIN.out.1 HIN.out.2 HLE.out (by rw [HPF.out]; exact HC.out) h0)
   have HLN := Lib.hid (Coll.len (n := (n1, n2)) HIN.out.1 HIN.out.2 (by rw [HPF.out]; exact HC.out))
   obtain ⟨A, c, rfl, hlc, hcm, hnr⟩ := HW.out.ow.form
   have qc := HW.out.qb.c
   have hnr' := hnr
   clear h0 hnr HM HC HVX HSN HIN
   have HST := Lib.hid (sort_any hnr' HLN.out qc HW.out.gl HW.out.hB)
   unfold SortE at HST
   have HWB := Lib.hid (show Below w.heap.size w wr ∧ gq < r + 1 ∧ w.heap.size ≤ r + 1 from ⟨HW.out.bel, HW.out.gl, Nat.le_trans HW.out.gw (Nat.le_of_lt HW.out.gl)⟩)
   obtain ⟨nl, hnl⟩ : ∃ nl, ns.length = nl := ⟨_, rfl⟩
   have HNL := Lib.hid hnl
   rw [hnl] at HST qc HLN hlc
   clear hnl
   go_wp2_with fail
   refine HST.out.mono ?_
   rintro e w7 ⟨ll, rfl, hpm, hso, hnr7, hb7⟩
   have qc7 := (hb7.cell (p := ⟨gq, 0, none⟩) HWB.out.2.1).trans qc
   have HAL := Lib.hid (HA.out ll hpm hso)
   have HLL := Lib.hid (show ll.length = nl from by rw [hpm.length_eq]; exact HNL.out)
   have HB7 := Lib.hid (show Below w.heap.size w w7 from HWB.out.1.trans (hb7.mono HWB.out.2.2))
   have HNR7 := Lib.hid (show NR w7 w.heap.size A ll from fun k x hx => by
    obtain ⟨G, e, g1, g2, g3, g4⟩ := hnr7 k x hx
    exact ⟨G, e, Nat.le_trans HWB.out.2.2 g1, g2, g3, g4⟩)
   clear hpm hso hnr7 hb7 HST HA qc
   go_wp2_with fail
   go_ret2
   have hD := HDO.out w7 A c ll HAL.out HNR7.out (by rw [HLL.out]; exact hlc) hcm (by rw [HLL.out]; exact HLN.out) HB7.out
   rw [HLL.out] at hD
   exact hD
  ·intro x p1 p2 w6 cnt' hfx hlx hxm hrg' hlt hg6 hs6 hen
   have HW6 := Lib.hid (HW.out.next hg6 (by omega) (by have := HG5.out; omega))
   have HM6 := Lib.hid hrg'
   obtain ⟨w7, hw7⟩ : ∃ w7, w6.alloc (.cells #[.int .i64 p1, .int .i64 p2] 24) = w7 := ⟨_, rfl⟩
   have hb7 : Below w6.heap.size w6 w7 := by rw [← hw7]; exact bel_alloc _ _
   have HW7 := Lib.hid (HW6.out.below hb7)
   have HM7 := Lib.hid (HM6.out.kept hb7)
   have HN7 := Lib.hid (show Nb w7 w6.heap.size (p1, p2) by rw [← hw7]; exact Nb.new w6 p1 p2)
   obtain ⟨gb, hgb⟩ : ∃ gb, w6.heap.size = gb := ⟨_, rfl⟩
   rw [hgb] at HN7
   obtain ⟨t0, t1⟩ := HN7.out
   dsimp only at t0 t1
   have HSE := Lib.hid (HSN.out w7 (p1, p2) HW7.out.bel)
   have HQ := Lib.hid (fun W => run_neq24 (seenV U L (p1, p2)) (0, 0) W)
   have HCS := Lib.hid (fun (hz : seenV U L (p1, p2) = (0, 0)) => HC.out.skip hfx hz)
   have HCA := Lib.hid (fun (hz : seenV U L (p1, p2) ≠ (0, 0)) => HC.out.add hfx hlx hz)
   have HLN := Lib.hid (Coll.len (n := (n1, n2)) HIN.out.1 HIN.out.2 (by rw [HPF.out]; exact HC.out))
   generalize seenV U L (p1, p2) = sv at *
   obtain ⟨s1, s2⟩ := sv
   have hgd := guard24
   clear hb7 hrg' hg6 hs6 HW6 HM6 hfx hlx HC HW HM
   go_wp2_with fail
   refine HSE.out.mono ?_
   rintro _ w8 ⟨rfl, hb8⟩
   have HW8 := Lib.hid (HW7.out.below hb8)
   have HM8 := Lib.hid (HM7.out.kept hb8)
   clear hb8 HW7 HM7 HSE t0 t1 HN7 hen hw7 hgb
   by_cases hz : ((s1, s2) : Nd) = (0, 0)
   ·have hq : ∀ W, (binOp .neq 24 (.agg #[.int .i64 s1, .int .i64 s2]) (.agg #[.int .i64 0, .int .i64 0])).run Tryz.prog W = .ok (.bool false) W := fun W => by have := HQ.out W; rw [decide_eq_true hz] at this; exact this
    have HCN := Lib.hid (HCS.out hz)
    clear HQ hz HCS HCA
    go_wp2_with fail
    go_roundg cnt'
    case measure => omega
    case rel => exact ⟨v, ns, _, HM8, HCN, HW8⟩
   ·have hq : ∀ W, (binOp .neq 24 (.agg #[.int .i64 s1, .int .i64 s2]) (.agg #[.int .i64 0, .int .i64 0])).run Tryz.prog W = .ok (.bool true) W := fun W => by have := HQ.out W; rw [decide_eq_false hz] at this; exact this
    have HCN := Lib.hid (HCA.out hz)
    have qc := HW8.out.qb.c
    have qf := HW8.out.qb.f
    obtain ⟨i0, hi, hz0, hz1, hz2⟩ := info_parts9
    have HOW := Lib.hid (fun ob => HW8.out.below (bel_alloc w8 ob))
    have HMW := Lib.hid (fun ob => HM8.out.kept (bel_alloc w8 ob))
    clear HQ hz HCS HCA HW8 HM8
    go_wp2_with (first | (at_builtin; go_must (refine wpList_append_own _ rfl (.tmp 30) (.tmp 32) 43 rfl (r + 1) 9 i0 _ 1 16 Tryz.underlying43 hi hz0 hz1 hz2 rfl (by decide) v ns.length (ns.map Value.string) rfl (HOW.out _).ow ⟨w8.heap.size, 0, none⟩ 1 1 [.string x] rfl rfl (cell_one_new _ _ _) (by intro u hu; simp at hu; subst hu; rfl) (by have := HLN.out; unfold maxLen; omega) (by have := HLN.out; omega) (HOW.out _).hB ?_; intro v' w9 hown9 hg9 _; have ho9 : Ow w9 (r + 1) v' (ns ++ [x]) := Ow.of hown9; have HA9 := Lib.hid (LW.app (HOW.out _) hg9 ho9); have hq9 : QB w9 gq v := (HOW.out _).qb.grown hg9 (fun e => by have := (HOW.out (.cells #[] 0)).ow.row _ e; have := HG5.out; omega); have HM9 := Lib.hid (((HMW.out _).keptG hg9 (fun e => by have := (HOW.out (.cells #[] 0)).ow.row _ e; have := HG5.out; omega) (fun e => by have := (HOW.out (.cells #[] 0)).ow.row _ e; omega)).keptG (grown_set w9 gq 0 v') (fun e => by injection e with e; have := HG5.out; omega) (fun e => by injection e with e; have := HG5.out; omega)); have qc9 := hq9.c; have qf9 := hq9.f; obtain ⟨A', c', hv', -⟩ := ho9.form; subst hv'; clear ho9 hq9 hown9 hg9 qc qf)) | fail)
    go_roundg cnt'
    case measure => omega
    case rel =>
     have e : (ns ++ [x]).length = ns.length + 1 := by simp
     rw [e] at HM9 HA9
     exact ⟨_, _, _, HM9, HCN, HA9⟩
end Go.Proofs.YtgoddboicjfkcaaGreat.mg
namespace Go.Proofs.YtgoddboicjfkcaaGreat.mg
open Go.RowKit
open br (BS Ino Inv fresh)
open cb (BrX RetW RetI No ReadI)
open bl (Pq Only)
def targN (U L : BS) (n : Nd) : ByteArray × Int := if kindV U L n = 0 then (⟨#[]⟩, 2) else if n.1 ≠ 0 then U.targetOf n.1 else L.targetOf n.2
theorem Vx.targB {w : World} {V P1 P2 : Nat} {u l : Int} {U L : BS} (h : Vx w V P1 P2 u l U L) (n : Nd) : Calls Tryz.prog 60 #[Pq (if n.1 ≠ 0 then P1 else P2), .int .i64 (if n.1 ≠ 0 then n.1 else n.2)] w (fun e w' => e = .returned (.tuple #[.string (if n.1 ≠ 0 then U.targetOf n.1 else L.targetOf n.2).1, .int .i64 (if n.1 ≠ 0 then U.targetOf n.1 else L.targetOf n.2).2]) ∧ w' = w) := by
 by_cases e : n.1 ≠ 0
 ·simp only [if_pos e]; obtain ⟨_, _, _, k⟩ := h.b1; exact cb.x_target k _
 ·simp only [if_neg e]; obtain ⟨_, _, _, k⟩ := h.b2; exact cb.x_target k _
def readN (U L : BS) (n : Nd) : BS × Int := if n.1 ≠ 0 then (U, n.1) else (L, n.2)
theorem Vx.readB {w : World} {V P1 P2 : Nat} {u l : Int} {U L : BS} (h : Vx w V P1 P2 u l U L) (n : Nd) (off sz : Int) : Calls Tryz.prog 59 #[Pq (if n.1 ≠ 0 then P1 else P2), .int .i64 (if n.1 ≠ 0 then n.1 else n.2), .int .i64 off, .int .i64 sz] w (ReadI w (readN U L n).1 (readN U L n).2 off sz) := by
 unfold readN
 by_cases e : n.1 ≠ 0
 ·simp only [if_pos e]; obtain ⟨_, _, _, k⟩ := h.b1; exact cb.x_read k _ _ _
 ·simp only [if_neg e]; obtain ⟨_, _, _, k⟩ := h.b2; exact cb.x_read k _ _ _
theorem target_any {w : World} {V P1 P2 : Nat} {u l : Int} {U L : BS} (h : Vx w V P1 P2 u l U L) (n : Nd) : Calls Tryz.prog 26 #[Pq V, Nv n] w (RetW w (.tuple #[.string (targN U L n).1, .int .i64 (targN U L n).2])) := by
 obtain ⟨w1, hw1, h1, hn1, hb1⟩ := box_in h n.1 n.2
 have HK := Lib.hid (kind_any h1 n)
 have HS := Lib.hid (fun W (hb : Below w.heap.size w W) => shown_any (h.below hb) n)
 have HT := Lib.hid (fun W (hb : Below w.heap.size w W) => (h.below hb).targB n)
 have HV := Lib.hid (show targN U L n = if kindV U L n = 0 then (⟨#[]⟩, 2) else (if n.1 ≠ 0 then U.targetOf n.1 else L.targetOf n.2) from rfl)
 unfold RetI at HK
 unfold RetW at HS
 generalize targN U L n = tv at *
 generalize kindV U L n = k at *
 generalize (if n.1 ≠ 0 then U.targetOf n.1 else L.targetOf n.2) = tt at *
 generalize (if n.1 ≠ 0 then P1 else P2) = P at *
 generalize (if n.1 ≠ 0 then n.1 else n.2) = i at *
 obtain ⟨g, hg⟩ : ∃ g, w.heap.size = g := ⟨_, rfl⟩
 have HB := Lib.hid hb1
 rw [hg] at hn1
 obtain ⟨n1, n2⟩ := n
 have HN := Lib.hid hn1
 have t0 := hn1.c0
 have t1 := hn1.c1
 dsimp only at t0 t1 hw1
 clear h h1 hn1 hb1
 go_enter Tryz.func26, Tryz.ntmps26
 go_wp2_with fail
 refine HK.out.mono ?_
 rintro _ w2 ⟨rfl, hb2⟩
 have HB2 := Lib.hid (bel_step HB.out hb2)
 have HN2 := Lib.hid (HN.out.below hb2)
 clear HK hb2 HB HN t0 t1
 by_cases e0 : k = 0
 ·subst e0
  rw [if_pos rfl] at HV
  go_wp2_with fail
  go_ret2
  exact ⟨by rw [HV.out]; rfl, HB2.out⟩
 have q0 : (k == 0) = false := by simpa using e0
 rw [if_neg e0] at HV
 obtain ⟨t0, t1⟩ := HN2.out
 dsimp only at t0 t1
 have HS2 := Lib.hid (HS.out _ HB2.out)
 clear HS
 go_wp2_with fail
 refine HS2.out.mono ?_
 rintro _ w3 ⟨rfl, hb3⟩
 have HB3 := Lib.hid (bel_step HB2.out hb3)
 have HT3 := Lib.hid (HT.out _ HB3.out)
 obtain ⟨ts, te⟩ := tt
 dsimp only at HT3
 clear HS2 hb3 HT t0 t1 HN2
 go_wp2_with fail
 refine HT3.out.mono ?_
 rintro _ w4 ⟨rfl, rfl⟩
 clear HT3
 go_wp2_with fail
 go_ret2
 exact ⟨by rw [HV.out]; rfl, HB3.out⟩
theorem row_lo {w : World} {lo lo' n c : Nat} {A : Option Addr} {f : Nat → UInt8} (h : bl.Row w lo A n c f) (hl : lo' ≤ lo) : bl.Row w lo' A n c f := ⟨h.1, h.2.imp id fun ⟨g, a, b, d⟩ => ⟨g, Nat.le_trans hl a, b, d⟩⟩
def ReadN (w : World) (U L : BS) (n : Nd) (off sz : Int) (e : Ending) (w' : World) : Prop :=
 (kindV U L n = 0 ∧ e = .returned (.tuple #[.slice none 0 0, .int .i64 2]) ∧ Below w.heap.size w w') ∨ (kindV U L n ≠ 0 ∧ ReadI w (readN U L n).1 (readN U L n).2 off sz e w')
theorem read_any {w : World} {V P1 P2 : Nat} {u l : Int} {U L : BS} (h : Vx w V P1 P2 u l U L) (n : Nd) (off sz : Int) : Calls Tryz.prog 28 #[Pq V, Nv n, .int .i64 off, .int .i64 sz] w (ReadN w U L n off sz) := by
 obtain ⟨w1, hw1, h1, hn1, hb1⟩ := box_in h n.1 n.2
 have HK := Lib.hid (kind_any h1 n)
 have HS := Lib.hid (fun W (hb : Below w.heap.size w W) => shown_any (h.below hb) n)
 have HT := Lib.hid (fun W (hb : Below w.heap.size w W) => (h.below hb).readB n off sz)
 have HV := Lib.hid (show ∀ A m c er W, kindV U L n ≠ 0 → Below w.heap.size w W → ReadI W (readN U L n).1 (readN U L n).2 off sz (.returned (.tuple #[.slice A m c, .int .i64 er])) W → True from fun _ _ _ _ _ _ _ _ => trivial)
 have HD0 := Lib.hid (show ∀ W, kindV U L n = 0 → Below w.heap.size w W → ReadN w U L n off sz (.returned (.tuple #[.slice none 0 0, .int .i64 2])) W from fun W a b => .inl ⟨a, rfl, b⟩)
 have HD1 := Lib.hid (show ∀ W A c, kindV U L n ≠ 0 → bl.Row W w.heap.size A (cb.readI (readN U L n).1 (readN U L n).2 off sz).2 c (fun j => ((readN U L n).1.at (readN U L n).2).body.dat (off.toNat + j)) → Below w.heap.size w W → ReadN w U L n off sz (.returned (.tuple #[.slice A (cb.readI (readN U L n).1 (readN U L n).2 off sz).2 c, .int .i64 (cb.readI (readN U L n).1 (readN U L n).2 off sz).1])) W from fun W A c a b d => .inr ⟨a, A, c, rfl, b, d⟩)
 unfold RetI at HK
 unfold RetW at HS
 unfold ReadI at HT
 generalize kindV U L n = k at *
 generalize (cb.readI (readN U L n).1 (readN U L n).2 off sz).1 = rn at *
 generalize (cb.readI (readN U L n).1 (readN U L n).2 off sz).2 = re at *
 generalize (fun j => ((readN U L n).1.at (readN U L n).2).body.dat (off.toNat + j)) = rf at *
 generalize (if n.1 ≠ 0 then P1 else P2) = P at *
 generalize (if n.1 ≠ 0 then n.1 else n.2) = i at *
 obtain ⟨g, hg⟩ : ∃ g, w.heap.size = g := ⟨_, rfl⟩
 have HB := Lib.hid hb1
 have HGW := Lib.hid hg
 rw [hg] at hn1
 obtain ⟨n1, n2⟩ := n
 have HN := Lib.hid hn1
 have t0 := hn1.c0
 have t1 := hn1.c1
 dsimp only at t0 t1 hw1
 clear h h1 hn1 hb1 HV
 go_enter Tryz.func28, Tryz.ntmps28
 go_wp2_with fail
 refine HK.out.mono ?_
 rintro _ w2 ⟨rfl, hb2⟩
 have HB2 := Lib.hid (bel_step HB.out hb2)
 have HN2 := Lib.hid (HN.out.below hb2)
 clear HK hb2 HB HN t0 t1
 by_cases e0 : k = 0
 ·subst e0
  go_wp2_with fail
  go_ret2
  exact HD0.out _ (by first | rfl | trivial) HB2.out
 have q0 : (k == 0) = false := by simpa using e0
 have HE0 := Lib.hid e0
 obtain ⟨t0, t1⟩ := HN2.out
 dsimp only at t0 t1
 have HS2 := Lib.hid (HS.out _ HB2.out)
 clear HS e0
 go_wp2_with fail
 refine HS2.out.mono ?_
 rintro _ w3 ⟨rfl, hb3⟩
 have HB3 := Lib.hid (bel_step HB2.out hb3)
 have HT3 := Lib.hid (HT.out _ HB3.out)
 clear HS2 hb3 HT t0 t1 HN2
 go_wp2_with fail
 refine HT3.out.mono ?_
 rintro _ w4 ⟨A, c, rfl, hrow, hb4⟩
 have HB4 := Lib.hid (bel_step HB3.out hb4)
 have HRW := Lib.hid (show bl.Row w4 w.heap.size A re c rf from row_lo hrow HB3.out.size)
 clear HT3 hrow hb4
 go_wp2_with fail
 go_ret2
 exact HD1.out _ _ _ HE0.out HRW.out HB4.out
end Go.Proofs.YtgoddboicjfkcaaGreat.mg
namespace Go.Proofs.YtgoddboicjfkcaaGreat.cb
open Go.ChangeShapes Go.WideShapes Go.ChangeAt Go.RowKit
section
open Go.Deep
variable {H : Type} {enc : TypeId × Value → H} {P : Program} {w : World} {base : Nat} {spare : Nat → Bool} {held : Bool}
theorem open_slice_fields {t e : TypeId} {fs : Array Field} {fuel : Nat} {cs : List Value} {x : DataW H × List MemPlace} (ht : P.underlying t = some (.slice e)) (he : P.underlying e = some (.struct fs))
  (hone : oneCellFields P fs = true) (hC : P.cellsOf e = fs.size) (h : DataW.trod enc P w base spare held fuel t cs = some x) :
  (cs = [.slice none 0 0]) ∨
  ∃ (a : Addr) (len cap m : Nat), cs = [.slice (some a) len cap] ∧ len ≤ cap ∧ cap ≤ maxLen ∧ len ≤ m ∧
   ∀ i, i < m → ∃ (n : Nat), ∀ (j : Nat) (f : Field), fs[j]? = some f → ∃ (v : Value) (y : DataW H × List MemPlace), w.cell? (a.add (i * fs.size + j)) = some v ∧ DataW.trod enc P w base spare held n f.type [v] = some y := by
 rcases open_slice ht h with h0 | ⟨a, len, cap, m, n, D, Pl, hcs, hb, hl, hm, hmm, hx, hi⟩
 ·exact .inl h0.1
 ·refine .inr ⟨a, len, cap, m, hcs, hl, hm, by rw [hmm]; split <;> omega, fun i him => ?_⟩
  obtain ⟨cs', hc, ht'⟩ := hi i him
  rw [hC] at hc
  obtain ⟨ys, n', hn', hy, hlen, hyl, hf⟩ := DataW.trod_struct he ht'
  obtain ⟨_, hcl, hat⟩ := World.cells?_some hc
  refine ⟨n', fun j f hj => ?_⟩
  obtain ⟨ho, hk⟩ := hone_of hone j f hj
  have hjl : j < fs.size := (Array.getElem?_eq_some_iff.1 hj).1
  have hcell := hat j hjl
  have hv : cs'[j]? = some (cs'[j]'(by omega)) := List.getElem?_eq_getElem (by omega)
  have h1 := hf j f hj
  rw [ho, hk] at h1
  have hone' : (cs'.drop j).take 1 = [cs'[j]'(by omega)] := by
   rw [List.drop_eq_getElem_cons (by omega)]
   rfl
  rw [hone'] at h1
  have hys : ys[j]? = some (ys[j]'(by omega)) := List.getElem?_eq_getElem (by omega)
  refine ⟨_, _, ?_, h1.trans hys⟩
  rw [← Go.Deep.add_add, hcell, hv]
end
structure Act7 where
 low : Bool
 kind : Int
 d : Int
 t : Int
 n : Int
 a : ByteArray
 b : ByteArray
instance : Inhabited Act7 := ⟨⟨false, 0, 0, 0, 0, ⟨#[]⟩, ⟨#[]⟩⟩⟩
theorem spot_none {w : World} {a : Addr} {v : Value} (h : w.cell? (a.add 0) = some v) : ∃ b off, a = ⟨b, off, none⟩ ∧ b < w.heap.size := by
 obtain ⟨b, off, spot⟩ := a
 have hs : spot = none := by simpa [Addr.add] using World.cell?_spot h
 subst hs
 exact ⟨b, off, rfl, World.block_lt_of_cell? w _ h⟩
theorem law_post {H : Type} {enc : TypeId × Value → H} {P : Program} {f : Func} {s : ChangeSpec} {apart fresh handsOn : Bool} {W W' : World} {args : Array Value} {v : Value} {ds gs : List (DataW H)} {before pa pv : List MemPlace}
  (hW : DataW.Whole enc P f.params.toList s.vars apart W args.toList ds gs before)
  (hres : ∀ (b : Nat) (sp : Nat → Bool) (hd : Bool), DataW.TrodAll enc P W' b sp hd f.resultTypes.toList (v.resultList f.resultTypes.size) (s.fn H (ds ++ gs)).results [])
  (hargs : ∀ sp : Nat → Bool, (∀ p ∈ before, sp p.block = true) → DataW.TrodAll enc P W' 0 sp true f.params.toList args.toList (s.fn H (ds ++ gs)).args pa)
  (hvars : ∀ sp : Nat → Bool, (∀ p ∈ before, sp p.block = true) → DataW.TrodVars enc P W' sp s.vars (s.fn H (ds ++ gs)).vars pv)
  (hps : before = pa ++ pv) (hb : Below W.heap.size W W')
  (_hok : ∀ (j : Nat) (t : TypeId) (r : Value), f.resultTypes[j]? = some t → (v.resultList f.resultTypes.size)[j]? = some r → Value.okWide P W' .any 0 t r) :
  s.post enc P f apart fresh handsOn false W args v W' := by
 have hlt : ∀ p ∈ before, p.block < W.heap.size := fun p hp => hW.lt p hp
 have hold : ∀ p ∈ before, (fun b => decide (b < W.heap.size)) p.block = true := fun p hp => by simpa using hlt p hp
 refine ⟨ds, gs, before, [], pa, pv, hW, hres _ _ _, hargs _ hold, hvars _ hold, World.keptBut_mono (fun p hp => ⟨hp, ?_⟩) (hb.frame (· ∈ before)), fun h => by cases h⟩
 rw [hps, List.mem_append] at hp
 exact Or.inr hp
end Go.Proofs.YtgoddboicjfkcaaGreat.cb
