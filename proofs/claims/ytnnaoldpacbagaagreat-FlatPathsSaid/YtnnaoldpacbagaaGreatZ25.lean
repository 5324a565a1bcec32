/- 'All', walked. 'Stat', 'Target', 'Read'. -/
import Derived.Test.YtnnaoldpacbagaaGreatZ24
section
namespace Go.Proofs.YtnnaoldpacbagaaGreat.mg
open Go.RowKit Go.Sort
open Go.Proofs.YtnnaoldpacbagaaGreat.dn (En lget lset ldel nerr dotB Sorted lessB)
open Go.Proofs.YtnnaoldpacbagaaGreat.br (BS Ino Inv fresh)
open Go.Proofs.YtnnaoldpacbagaaGreat.cb (BrX RetW RetI No)
open Go.Proofs.YtnnaoldpacbagaaGreat.bl (Pq Only)
set_option linter.unusedVariables false
set_option linter.unusedSimpArgs false

theorem nodup_le {α : Type} [DecidableEq α] : ∀ (ns l : List α), ns.Nodup → (∀ x, x ∈ ns → x ∈ l) → ns.length ≤ l.length
  | [], _, _, _ => Nat.zero_le _
  | a :: ns, l, hn, hs => by
    have h1 := List.nodup_cons.1 hn
    have ha : a ∈ l := hs a List.mem_cons_self
    have h2 := nodup_le ns (l.erase a) h1.2 fun x hx => (List.mem_erase_of_ne (fun e => h1.1 (by rw [← e]; exact hx))).2 (hs x (List.mem_cons_of_mem _ hx))
    rw [List.length_erase_of_mem ha] at h2
    have := List.length_pos_of_mem ha
    simp only [List.length_cons]
    omega
theorem Coll.len {U L : BS} {n : Nd} {r1 r2 : Nat} {left : ByteArray → Bool} {ns : List ByteArray} (hU : Inv U r1) (hL : Inv L r2) (h : Coll U L (pairF U L n) left ns) : ns.length ≤ 8000 := by
  have h1 := nodup_le ns ((U.all n.1).1.map (·.1) ++ (L.all (belV U n)).1.map (·.1)) h.nd fun s hs => by
    obtain ⟨⟨p, e, _⟩, _⟩ := (h.mem s).1 hs
    unfold pairF at e
    rw [fold2 _ _ _ (all_sorted hL _), fold1 _ _ _ (all_sorted hU _)] at e
    rw [List.mem_append]
    cases e1 : lget s (L.all (belV U n)).1 with
    | some v =>
      right
      have := (dn.lget_some (all_sorted hL _)).1 e1
      exact List.mem_map.2 ⟨_, this, rfl⟩
    | none =>
      rw [e1] at e
      cases e2 : lget s (U.all n.1).1 with
      | some v =>
        left
        have := (dn.lget_some (all_sorted hU _)).1 e2
        exact List.mem_map.2 ⟨_, this, rfl⟩
      | none => rw [e2] at e; cases e
  have h2 := all_len hU n.1
  have h3 := all_len hL (belV U n)
  simp only [List.length_append, List.length_map] at h1
  omega
/-- A box of one value that may be written. -/
structure QB (w : World) (g : Nat) (v : Value) : Prop where
  c : w.cell? ⟨g, 0, none⟩ = some v
  f : w.frozen? ⟨g, 0, none⟩ = false
theorem QB.same {w w' : World} {g : Nat} {v : Value} (h : QB w g v) (e : w'.heap[g]? = w.heap[g]?) : QB w' g v := ⟨(World.cell?_of_block (a := ⟨g, 0, none⟩) e).trans h.c, (World.frozen?_of_block (a := ⟨g, 0, none⟩) e).trans h.f⟩
theorem QB.lt {w : World} {g : Nat} {v : Value} (h : QB w g v) : g < w.heap.size := World.block_lt_of_cell? _ _ h.c
theorem QB.below {w w' : World} {g : Nat} {v : Value} (h : QB w g v) (hb : Below w.heap.size w w') : QB w' g v := h.same (hb.block g h.lt)
theorem QB.grown {w w' : World} {g : Nat} {v : Value} {row : Option Nat} (h : QB w g v) (hg : w.grownBy w' row) (hr : row ≠ some g) : QB w' g v := h.same (hg.block g h.lt hr.symm)
theorem QB.set {w : World} {g : Nat} {v : Value} (h : QB w g v) (u : Value) : QB (w.setCell ⟨g, 0, none⟩ u) g u := ⟨World.cell?_setCell_same' _ _ _ (by rw [h.c]; rfl), by simp [h.f]⟩
theorem grown_bel {w0 w w' : World} {row : Option Nat} (hb : Below w0.heap.size w0 w) (hg : w.grownBy w' row) (hr : ∀ k, row = some k → w0.heap.size ≤ k) : Below w0.heap.size w0 w' := hb.grown hg hb.size hr
theorem Ow.row {w : World} {B : Nat} {v : Value} {ns : List ByteArray} (h : Ow w B v ns) : ∀ k, v.ownBlock = some k → B ≤ k := fun k hk => (World.ownsRow.lt h k hk).1
theorem Ow.of {w : World} {B : Nat} {v : Value} {ns : List ByteArray} {x : ByteArray} (h : w.ownsRow B 9 1 v (ns.length + 1) (ns.map Value.string ++ [.string x])) : Ow w B v (ns ++ [x]) := by unfold Ow; rw [List.length_append, List.map_append]; exact h
/-- What is told of the world inside the loop. -/
structure LW (w wr : World) (gq B : Nat) (v : Value) (ns : List ByteArray) : Prop where
  ow : Ow wr B v ns
  qb : QB wr gq v
  bel : Below w.heap.size w wr
  hB : B ≤ wr.heap.size
  gl : gq < B
  gw : w.heap.size ≤ gq
theorem LW.below {w wr w' : World} {gq B : Nat} {v : Value} {ns : List ByteArray} (h : LW w wr gq B v ns) (hb : Below wr.heap.size wr w') : LW w w' gq B v ns :=
  ⟨h.ow.below hb, h.qb.below hb, bel_step h.bel hb, Nat.le_trans h.hB hb.size, h.gl, h.gw⟩
theorem LW.next {w wr w' : World} {gq B r : Nat} {v : Value} {ns : List ByteArray} (h : LW w wr gq B v ns) (hg : wr.grownBy w' (some r)) (hr : r < B) (h0 : gq < r) : LW w w' gq B v ns :=
  ⟨h.ow.grown hg hr, h.qb.grown hg (fun e => by injection e with e; omega), grown_bel h.bel hg (fun k e => by injection e with e; have := h.gw; omega), Nat.le_trans h.hB hg.size, h.gl, h.gw⟩
theorem LW.app {w wr w' : World} {gq B : Nat} {v v' : Value} {ns ns' : List ByteArray} (h : LW w wr gq B v ns) (hg : wr.grownBy w' v.ownBlock) (ho : Ow w' B v' ns') : LW w (w'.setCell ⟨gq, 0, none⟩ v') gq B v' ns' := by
  have hr := h.ow.row
  have hq : QB w' gq v := h.qb.grown hg (fun e => by have := hr _ e; have := h.gl; omega)
  have hb : Below w.heap.size w w' := grown_bel h.bel hg (fun k e => by have := hr _ e; have := h.gl; have := h.gw; omega)
  exact ⟨ho.grown (grown_set w' gq 0 v') h.gl, hq.set v', set_below hb h.gw _, by rw [set_size]; exact Nat.le_trans h.hB hg.size, h.gl, h.gw⟩
set_option maxRecDepth 100000 in
set_option maxHeartbeats 4000000 in
theorem all_any {w : World} {V P1 P2 : Nat} {u l : Int} {U L : BS} {r1 r2 : Nat} (h : Vx w V P1 P2 u l U L) (hU : Inv U r1) (hL : Inv L r2) (n : Nd) : Calls Tryz.prog 17 #[Pq V, Nv n] w (AllE w U L n) := by
  obtain ⟨n1, n2⟩ := n
  obtain ⟨w1, hw1⟩ : ∃ w1, w.alloc (.cells #[.int .i64 n1, .int .i64 n2] 24) = w1 := ⟨_, rfl⟩
  have hb1 : Below w.heap.size w w1 := by rw [← hw1]; exact bel_alloc _ _
  have hn1 : Nb w1 w.heap.size (n1, n2) := by rw [← hw1]; exact Nb.new w n1 n2
  have HB1 := Lib.hid hb1
  have HN1 := Lib.hid hn1
  have HVX := Lib.hid (fun W (hb : Below w.heap.size w W) => h.below hb)
  have HLS := Lib.hid (listed_any (h.below hb1) (n1, n2))
  have HPR := Lib.hid (fun W (hb : Below w.heap.size w W) => pairs_any (h.below hb) hU hL (n1, n2))
  have HSN := Lib.hid (fun W p (hb : Below w.heap.size w W) => seen_any (h.below hb) p)
  have HIN := Lib.hid (And.intro hU hL)
  have HDO := Lib.hid (show ∀ (W : World) (A : Option Addr) (c : Nat) (ll : List ByteArray), AllV U L (n1, n2) ll → NR W w.heap.size A ll → ll.length ≤ c → c ≤ maxLen → ll.length ≤ 8000 → Below w.heap.size w W → AllE w U L (n1, n2) (.returned (.tuple #[.slice A ll.length c, .int .i64 (lstV U L (n1, n2))])) W from fun W A c ll a1 a2 a3 a4 a5 a6 => ⟨A, c, ll, rfl, a1, a2, a3, a4, a5, a6⟩)
  unfold RetI at HLS
  unfold PairsE at HPR
  obtain ⟨pf, hpf⟩ : ∃ pf, pairF U L (n1, n2) = pf := ⟨_, rfl⟩
  rw [hpf] at HPR
  have HPF := Lib.hid hpf
  clear hpf
  unfold RetW at HSN
  obtain ⟨le, hle⟩ : ∃ le, lstV U L (n1, n2) = le := ⟨_, rfl⟩
  rw [hle] at HLS HDO
  have HLE := Lib.hid hle
  clear h hU hL hb1 hn1 hle
  obtain ⟨g, hg⟩ : ∃ g, w.heap.size = g := ⟨_, rfl⟩
  have HGB := Lib.hid hg
  rw [hg] at HN1
  obtain ⟨t0, t1⟩ := HN1.out
  dsimp only at t0 t1
  go_enter Tryz.func17, Tryz.ntmps17
  go_wp2_with fail
  refine HLS.out.mono ?_
  rintro _ w2 ⟨rfl, hb2⟩
  have HB2 := Lib.hid (bel_step HB1.out hb2)
  have HN2 := Lib.hid (HN1.out.below hb2)
  clear hw1 hb2 HB1 HN1 t0 t1 HLS
  by_cases e0 : le = 0
  case neg =>
    have q0 : (le != 0) = true := by simpa using e0
    have HV0 := Lib.hid (AllV.none (U := U) (L := L) (n := (n1, n2)) (by rw [HLE.out]; exact e0))
    go_wp2_with fail
    go_ret2
    exact HDO.out w2 none 0 [] HV0.out (NR.nil _ _ _) (Nat.le_refl _) (by unfold maxLen; omega) (Nat.zero_le _) HB2.out
  subst e0
  obtain ⟨w3, hw3⟩ : ∃ w3, w2.alloc (.cells #[.slice none 0 0] 43) = w3 := ⟨_, rfl⟩
  have HB3 := Lib.hid (show Below w.heap.size w w3 by rw [← hw3]; exact bel_step HB2.out (bel_alloc _ _))
  have HN3 := Lib.hid (show Nb w3 g (n1, n2) by rw [← hw3]; exact HN2.out.below (bel_alloc _ _))
  have HQ3 := Lib.hid (show QB w3 w2.heap.size (.slice none 0 0) by rw [← hw3]; exact ⟨by simp, by simp⟩)
  obtain ⟨gq, hgq⟩ : ∃ gq, w2.heap.size = gq := ⟨_, rfl⟩
  have HGQ := Lib.hid (show w.heap.size ≤ gq ∧ w3.heap.size = gq + 1 by rw [← hw3, World.size_alloc, hgq]; exact ⟨by have := HB2.out.size; omega, rfl⟩)
  rw [hgq] at HQ3
  obtain ⟨t0, t1⟩ := HN3.out
  dsimp only at t0 t1
  have HP3 := Lib.hid (HPR.out _ HB3.out)
  clear HPR HN2 HB2
  go_wp2_with fail
  refine HP3.out.mono ?_
  rintro _ w4 ⟨M, S, rfl, hm4, hM4, hb4⟩
  obtain ⟨r, hr⟩ : ∃ r, w4.heap.size = r := ⟨_, rfl⟩
  have HR4 := Lib.hid hr
  have HMV := Lib.hid hm4
  have HQ4 := Lib.hid (HQ3.out.below hb4)
  have HB4 := Lib.hid (bel_step HB3.out hb4)
  have HGM := Lib.hid (show gq < M ∧ M < r by have := HGQ.out.2; have := hm4.lt; omega)
  clear hw3 hm4 hM4 hb4 HP3 HB3 HN3 HQ3 t0 t1 hgq hr
  go_wp2_with (first | (at_range; refine list_rangeN _ rfl _ rfl M S _ rfl r HR4.out HMV.out ?_; intro w5 cnt0 hrg0 hb5 hs5) | fail)
  go_frame
  have HW5 := Lib.hid (show LW w w5 gq (r + 1) (.slice none 0 0) [] from ⟨World.ownsRow_nil _ _ _ _, HQ4.out.below hb5, bel_step HB4.out hb5, by omega, by have := HGM.out; omega, HGQ.out.1⟩)
  have HC5 := Lib.hid (Coll.start U L pf)
  have HM5 := Lib.hid hrg0
  have HG5 := Lib.hid (show gq < M ∧ M < r from HGM.out)
  clear hrg0 hb5 hs5 HR4 HMV HQ4 HB4 HGM HGQ
  go_loopg [20] cnt0 (fun g' _ wr => ∃ (v : Value) (ns : List ByteArray) (left : ByteArray → Bool), Hid (MapRN wr M r S pf left g') ∧ Hid (Coll U L pf left ns) ∧ Hid (LW w wr gq (r + 1) v ns))
  case atStart => exact ⟨_, _, _, HM5, HC5, HW5⟩
  case round =>
    clear HM5 HC5 HW5
    obtain ⟨v, ns, left, HM, HC, HW⟩ := hrel
    go_wp2_with (first | (at_next; refine list_nextN _ rfl _ rfl M r S gk pf left rfl HM.out ?_ ?_) | fail)
    · intro h0
      have HA := Lib.hid (fun ll => Coll.all (l := ll) (n := (n1, n2)) HIN.out.1 HIN.out.2 HLE.out (by rw [HPF.out]; exact HC.out) h0)
      have HLN := Lib.hid (Coll.len (n := (n1, n2)) HIN.out.1 HIN.out.2 (by rw [HPF.out]; exact HC.out))
      obtain ⟨A, c, rfl, hlc, hcm, hnr⟩ := HW.out.ow.form
      have qc := HW.out.qb.c
      have hnr' := hnr
      clear h0 hnr HM HC HVX HSN HIN
      have HST := Lib.hid (sort_any hnr' HLN.out qc HW.out.gl HW.out.hB)
      unfold SortE at HST
      have HWB := Lib.hid (show Below w.heap.size w wr ∧ gq < r + 1 ∧ w.heap.size ≤ r + 1 from ⟨HW.out.bel, HW.out.gl, Nat.le_trans HW.out.gw (Nat.le_of_lt HW.out.gl)⟩)
      obtain ⟨nl, hnl⟩ : ∃ nl, ns.length = nl := ⟨_, rfl⟩
      have HNL := Lib.hid hnl
      rw [hnl] at HST qc HLN hlc
      clear hnl
      go_wp2_with fail
      refine HST.out.mono ?_
      rintro e w7 ⟨ll, rfl, hpm, hso, hnr7, hb7⟩
      have qc7 := (hb7.cell (p := ⟨gq, 0, none⟩) HWB.out.2.1).trans qc
      have HAL := Lib.hid (HA.out ll hpm hso)
      have HLL := Lib.hid (show ll.length = nl from by rw [hpm.length_eq]; exact HNL.out)
      have HB7 := Lib.hid (show Below w.heap.size w w7 from HWB.out.1.trans (hb7.mono HWB.out.2.2))
      have HNR7 := Lib.hid (show NR w7 w.heap.size A ll from fun k x hx => by
        obtain ⟨G, e, g1, g2, g3, g4⟩ := hnr7 k x hx
        exact ⟨G, e, Nat.le_trans HWB.out.2.2 g1, g2, g3, g4⟩)
      clear hpm hso hnr7 hb7 HST HA qc
      go_wp2_with fail
      go_ret2
      have hD := HDO.out w7 A c ll HAL.out HNR7.out (by rw [HLL.out]; exact hlc) hcm (by rw [HLL.out]; exact HLN.out) HB7.out
      rw [HLL.out] at hD
      exact hD
    · intro x p1 p2 w6 cnt' hfx hlx hxm hrg' hlt hg6 hs6 hen
      have HW6 := Lib.hid (HW.out.next hg6 (by omega) (by have := HG5.out; omega))
      have HM6 := Lib.hid hrg'
      obtain ⟨w7, hw7⟩ : ∃ w7, w6.alloc (.cells #[.int .i64 p1, .int .i64 p2] 24) = w7 := ⟨_, rfl⟩
      have hb7 : Below w6.heap.size w6 w7 := by rw [← hw7]; exact bel_alloc _ _
      have HW7 := Lib.hid (HW6.out.below hb7)
      have HM7 := Lib.hid (HM6.out.kept hb7)
      have HN7 := Lib.hid (show Nb w7 w6.heap.size (p1, p2) by rw [← hw7]; exact Nb.new w6 p1 p2)
      obtain ⟨gb, hgb⟩ : ∃ gb, w6.heap.size = gb := ⟨_, rfl⟩
      rw [hgb] at HN7
      obtain ⟨t0, t1⟩ := HN7.out
      dsimp only at t0 t1
      have HSE := Lib.hid (HSN.out w7 (p1, p2) HW7.out.bel)
      have HQ := Lib.hid (fun W => run_neq24 (seenV U L (p1, p2)) (0, 0) W)
      have HCS := Lib.hid (fun (hz : seenV U L (p1, p2) = (0, 0)) => HC.out.skip hfx hz)
      have HCA := Lib.hid (fun (hz : seenV U L (p1, p2) ≠ (0, 0)) => HC.out.add hfx hlx hz)
      have HLN := Lib.hid (Coll.len (n := (n1, n2)) HIN.out.1 HIN.out.2 (by rw [HPF.out]; exact HC.out))
      generalize seenV U L (p1, p2) = sv at *
      obtain ⟨s1, s2⟩ := sv
      have hgd := guard24
      clear hb7 hrg' hg6 hs6 HW6 HM6 hfx hlx HC HW HM
      go_wp2_with fail
      refine HSE.out.mono ?_
      rintro _ w8 ⟨rfl, hb8⟩
      have HW8 := Lib.hid (HW7.out.below hb8)
      have HM8 := Lib.hid (HM7.out.kept hb8)
      clear hb8 HW7 HM7 HSE t0 t1 HN7 hen hw7 hgb
      by_cases hz : ((s1, s2) : Nd) = (0, 0)
      · have hq : ∀ W, (binOp .neq 24 (.agg #[.int .i64 s1, .int .i64 s2]) (.agg #[.int .i64 0, .int .i64 0])).run Tryz.prog W = .ok (.bool false) W := fun W => by have := HQ.out W; rw [decide_eq_true hz] at this; exact this
        have HCN := Lib.hid (HCS.out hz)
        clear HQ hz HCS HCA
        go_wp2_with fail
        go_roundg cnt'
        case measure => omega
        case rel => exact ⟨v, ns, _, HM8, HCN, HW8⟩
      · have hq : ∀ W, (binOp .neq 24 (.agg #[.int .i64 s1, .int .i64 s2]) (.agg #[.int .i64 0, .int .i64 0])).run Tryz.prog W = .ok (.bool true) W := fun W => by have := HQ.out W; rw [decide_eq_false hz] at this; exact this
        have HCN := Lib.hid (HCA.out hz)
        have qc := HW8.out.qb.c
        have qf := HW8.out.qb.f
        obtain ⟨i0, hi, hz0, hz1, hz2⟩ := info_parts9
        have HOW := Lib.hid (fun ob => HW8.out.below (bel_alloc w8 ob))
        have HMW := Lib.hid (fun ob => HM8.out.kept (bel_alloc w8 ob))
        clear HQ hz HCS HCA HW8 HM8
        go_wp2_with (first | (at_builtin; go_must (refine wpList_append_own _ rfl (.tmp 30) (.tmp 32) 43 rfl (r + 1) 9 i0 _ 1 16 Tryz.underlying43 hi hz0 hz1 hz2 rfl (by decide) v ns.length (ns.map Value.string) rfl (HOW.out _).ow ⟨w8.heap.size, 0, none⟩ 1 1 [.string x] rfl rfl (cell_one_new _ _ _) (by intro u hu; simp at hu; subst hu; rfl) (by have := HLN.out; unfold maxLen; omega) (by have := HLN.out; omega) (HOW.out _).hB ?_; intro v' w9 hown9 hg9 _; have ho9 : Ow w9 (r + 1) v' (ns ++ [x]) := Ow.of hown9; have HA9 := Lib.hid (LW.app (HOW.out _) hg9 ho9); have hq9 : QB w9 gq v := (HOW.out _).qb.grown hg9 (fun e => by have := (HOW.out (.cells #[] 0)).ow.row _ e; have := HG5.out; omega); have HM9 := Lib.hid (((HMW.out _).keptG hg9 (fun e => by have := (HOW.out (.cells #[] 0)).ow.row _ e; have := HG5.out; omega) (fun e => by have := (HOW.out (.cells #[] 0)).ow.row _ e; omega)).keptG (grown_set w9 gq 0 v') (fun e => by injection e with e; have := HG5.out; omega) (fun e => by injection e with e; have := HG5.out; omega)); have qc9 := hq9.c; have qf9 := hq9.f; obtain ⟨A', c', hv', -⟩ := ho9.form; subst hv'; clear ho9 hq9 hown9 hg9 qc qf)) | fail)
        go_roundg cnt'
        case measure => omega
        case rel =>
          have e : (ns ++ [x]).length = ns.length + 1 := by simp
          rw [e] at HM9 HA9
          exact ⟨_, _, _, HM9, HCN, HA9⟩
end Go.Proofs.YtnnaoldpacbagaaGreat.mg
end
section
namespace Go.Proofs.YtnnaoldpacbagaaGreat.mg
open Go.RowKit
open Go.Proofs.YtnnaoldpacbagaaGreat.br (BS Ino Inv fresh)
open Go.Proofs.YtnnaoldpacbagaaGreat.cb (BrX RetW RetI No ReadI statV)
open Go.Proofs.YtnnaoldpacbagaaGreat.bl (Pq Only)
set_option linter.unusedVariables false
set_option linter.unusedSimpArgs false

/-- A box of three numbers that may be written. -/
structure R3 (w : World) (g : Nat) (x y z : Int) : Prop where
  c0 : w.cell? ⟨g, 0, none⟩ = some (.int .i64 x)
  c1 : w.cell? ⟨g, 1, none⟩ = some (.int .i64 y)
  c2 : w.cell? ⟨g, 2, none⟩ = some (.int .i64 z)
  f0 : w.frozen? ⟨g, 0, none⟩ = false
  f1 : w.frozen? ⟨g, 1, none⟩ = false
  f2 : w.frozen? ⟨g, 2, none⟩ = false
theorem R3.new (w : World) (x y z : Int) : R3 (w.alloc (.cells #[.int .i64 x, .int .i64 y, .int .i64 z] 47)) w.heap.size x y z := ⟨by simp, by simp, by simp, by simp, by simp, by simp⟩
theorem R3.lt {w : World} {g : Nat} {x y z : Int} (h : R3 w g x y z) : g < w.heap.size := World.block_lt_of_cell? _ _ h.c0
theorem R3.same {w w' : World} {g : Nat} {x y z : Int} (h : R3 w g x y z) (e : w'.heap[g]? = w.heap[g]?) : R3 w' g x y z :=
  ⟨(World.cell?_of_block (a := ⟨g, 0, none⟩) e).trans h.c0, (World.cell?_of_block (a := ⟨g, 1, none⟩) e).trans h.c1, (World.cell?_of_block (a := ⟨g, 2, none⟩) e).trans h.c2, (World.frozen?_of_block (a := ⟨g, 0, none⟩) e).trans h.f0, (World.frozen?_of_block (a := ⟨g, 1, none⟩) e).trans h.f1, (World.frozen?_of_block (a := ⟨g, 2, none⟩) e).trans h.f2⟩
theorem R3.below {w w' : World} {g : Nat} {x y z : Int} (h : R3 w g x y z) (hb : Below w.heap.size w w') : R3 w' g x y z := h.same (hb.block g h.lt)
theorem R3.range {w : World} {g : Nat} {x y z : Int} (h : R3 w g x y z) (a b c : Value) : (((w.setCell ⟨g, 0, none⟩ a).setCell ⟨g, 1, none⟩ b).setCell ⟨g, 2, none⟩ c).rangeAt g 0 [a, b, c] := by
  have ne : ∀ i j : Nat, i ≠ j → (⟨g, j, none⟩ : Addr) ≠ ⟨g, i, none⟩ := fun i j h e => by injection e with _ e; exact h e.symm
  have c0 : (w.cell? ⟨g, 0, none⟩).isSome = true := by rw [h.c0]; rfl
  have c1 : (w.cell? ⟨g, 1, none⟩).isSome = true := by rw [h.c1]; rfl
  have c2 : (w.cell? ⟨g, 2, none⟩).isSome = true := by rw [h.c2]; rfl
  intro j v hv
  rw [Nat.zero_add]
  match j, hv with
  | 0, hv =>
    cases hv
    rw [World.cell?_setCell_other _ _ _ _ (ne 0 2 (by decide)), World.cell?_setCell_other _ _ _ _ (ne 0 1 (by decide))]
    exact World.cell?_setCell_same' _ _ _ c0
  | 1, hv =>
    cases hv
    rw [World.cell?_setCell_other _ _ _ _ (ne 1 2 (by decide))]
    exact World.cell?_setCell_same' _ _ _ (by rw [World.cell?_setCell_other _ _ _ _ (ne 1 0 (by decide))]; exact c1)
  | 2, hv => cases hv; exact World.cell?_setCell_same' _ _ _ (by rw [World.cell?_setCell_other _ _ _ _ (ne 2 1 (by decide)), World.cell?_setCell_other _ _ _ _ (ne 2 0 (by decide))]; exact c2)
  | j + 3, hv => simp at hv
theorem R3.mid {w : World} {g : Nat} {x y z : Int} (h : R3 w g x y z) (a : Int) : R3 (w.setCell ⟨g, 1, none⟩ (.int .i64 a)) g x a z := by
  have ne : ∀ i j : Nat, i ≠ j → (⟨g, j, none⟩ : Addr) ≠ ⟨g, i, none⟩ := fun i j h e => by injection e with _ e; exact h e.symm
  have c1 : (w.cell? ⟨g, 1, none⟩).isSome = true := by rw [h.c1]; rfl
  exact ⟨by rw [World.cell?_setCell_other _ _ _ _ (ne 0 1 (by decide))]; exact h.c0, World.cell?_setCell_same' _ _ _ c1, by rw [World.cell?_setCell_other _ _ _ _ (ne 2 1 (by decide))]; exact h.c2, by simp [h.f0], by simp [h.f1], by simp [h.f2]⟩
theorem set3_below {w0 w : World} {g : Nat} (hb : Below w0.heap.size w0 w) (hg : w0.heap.size ≤ g) (a b c : Value) : Below w0.heap.size w0 (((w.setCell ⟨g, 0, none⟩ a).setCell ⟨g, 1, none⟩ b).setCell ⟨g, 2, none⟩ c) :=
  set_below (set2_below hb hg a b) hg c
/-- Kind, size, links; the error: cnt is the number of names. -/
def statN (U L : BS) (n : Nd) (cnt : Int) : (Int × Int × Int) × Int :=
  if kindV U L n = 0 then ((0, 0, 0), 2)
  else (((if n.1 ≠ 0 then U.stat n.1 else L.stat n.2).1.1, if kindV U L n = 2 then cnt else ((if n.1 ≠ 0 then U.stat n.1 else L.stat n.2).1.2.1 : Int), (if n.1 ≠ 0 then U.stat n.1 else L.stat n.2).1.2.2), (if n.1 ≠ 0 then U.stat n.1 else L.stat n.2).2)
abbrev Sv3 (r : (Int × Int × Int) × Int) : Value := .tuple #[.agg #[.int .i64 r.1.1, .int .i64 r.1.2.1, .int .i64 r.1.2.2], .int .i64 r.2]
def StatE (w : World) (U L : BS) (n : Nd) (e : Ending) (w' : World) : Prop := ∃ l : List ByteArray, AllV U L n l ∧ e = .returned (Sv3 (statN U L n l.length)) ∧ Below w.heap.size w w'
theorem Vx.statB {w : World} {V P1 P2 : Nat} {u l : Int} {U L : BS} (h : Vx w V P1 P2 u l U L) (n : Nd) : Calls Tryz.prog 67 #[Pq (if n.1 ≠ 0 then P1 else P2), .int .i64 (if n.1 ≠ 0 then n.1 else n.2)] w (RetW w (.tuple #[.agg #[.int .i64 (if n.1 ≠ 0 then U.stat n.1 else L.stat n.2).1.1, .int .i64 ((if n.1 ≠ 0 then U.stat n.1 else L.stat n.2).1.2.1 : Int), .int .i64 (if n.1 ≠ 0 then U.stat n.1 else L.stat n.2).1.2.2], .int .i64 (if n.1 ≠ 0 then U.stat n.1 else L.stat n.2).2])) := by
  by_cases e : n.1 ≠ 0
  · simp only [if_pos e]; obtain ⟨_, _, _, k⟩ := h.b1; exact cb.x_stat k _
  · simp only [if_neg e]; obtain ⟨_, _, _, k⟩ := h.b2; exact cb.x_stat k _
/-- A link's target; the error. -/
def targN (U L : BS) (n : Nd) : ByteArray × Int := if kindV U L n = 0 then (⟨#[]⟩, 2) else if n.1 ≠ 0 then U.targetOf n.1 else L.targetOf n.2
theorem Vx.targB {w : World} {V P1 P2 : Nat} {u l : Int} {U L : BS} (h : Vx w V P1 P2 u l U L) (n : Nd) : Calls Tryz.prog 69 #[Pq (if n.1 ≠ 0 then P1 else P2), .int .i64 (if n.1 ≠ 0 then n.1 else n.2)] w (fun e w' => e = .returned (.tuple #[.string (if n.1 ≠ 0 then U.targetOf n.1 else L.targetOf n.2).1, .int .i64 (if n.1 ≠ 0 then U.targetOf n.1 else L.targetOf n.2).2]) ∧ w' = w) := by
  by_cases e : n.1 ≠ 0
  · simp only [if_pos e]; obtain ⟨_, _, _, k⟩ := h.b1; exact cb.x_target k _
  · simp only [if_neg e]; obtain ⟨_, _, _, k⟩ := h.b2; exact cb.x_target k _
def readN (U L : BS) (n : Nd) : BS × Int := if n.1 ≠ 0 then (U, n.1) else (L, n.2)
theorem Vx.readB {w : World} {V P1 P2 : Nat} {u l : Int} {U L : BS} (h : Vx w V P1 P2 u l U L) (n : Nd) (off sz : Int) : Calls Tryz.prog 71 #[Pq (if n.1 ≠ 0 then P1 else P2), .int .i64 (if n.1 ≠ 0 then n.1 else n.2), .int .i64 off, .int .i64 sz] w (ReadI w (readN U L n).1 (readN U L n).2 off sz) := by
  unfold readN
  by_cases e : n.1 ≠ 0
  · simp only [if_pos e]; obtain ⟨_, _, _, k⟩ := h.b1; exact cb.x_read k _ _ _
  · simp only [if_neg e]; obtain ⟨_, _, _, k⟩ := h.b2; exact cb.x_read k _ _ _
set_option maxRecDepth 100000 in
set_option maxHeartbeats 4000000 in
theorem target_any {w : World} {V P1 P2 : Nat} {u l : Int} {U L : BS} (h : Vx w V P1 P2 u l U L) (n : Nd) : Calls Tryz.prog 22 #[Pq V, Nv n] w (RetW w (.tuple #[.string (targN U L n).1, .int .i64 (targN U L n).2])) := by
  obtain ⟨w1, hw1, h1, hn1, hb1⟩ := box_in h n.1 n.2
  have HK := Lib.hid (kind_any h1 n)
  have HS := Lib.hid (fun W (hb : Below w.heap.size w W) => shown_any (h.below hb) n)
  have HT := Lib.hid (fun W (hb : Below w.heap.size w W) => (h.below hb).targB n)
  have HV := Lib.hid (show targN U L n = if kindV U L n = 0 then (⟨#[]⟩, 2) else (if n.1 ≠ 0 then U.targetOf n.1 else L.targetOf n.2) from rfl)
  unfold RetI at HK
  unfold RetW at HS
  generalize targN U L n = tv at *
  generalize kindV U L n = k at *
  generalize (if n.1 ≠ 0 then U.targetOf n.1 else L.targetOf n.2) = tt at *
  generalize (if n.1 ≠ 0 then P1 else P2) = P at *
  generalize (if n.1 ≠ 0 then n.1 else n.2) = i at *
  obtain ⟨g, hg⟩ : ∃ g, w.heap.size = g := ⟨_, rfl⟩
  have HB := Lib.hid hb1
  rw [hg] at hn1
  obtain ⟨n1, n2⟩ := n
  have HN := Lib.hid hn1
  have t0 := hn1.c0
  have t1 := hn1.c1
  dsimp only at t0 t1 hw1
  clear h h1 hn1 hb1
  go_enter Tryz.func22, Tryz.ntmps22
  go_wp2_with fail
  refine HK.out.mono ?_
  rintro _ w2 ⟨rfl, hb2⟩
  have HB2 := Lib.hid (bel_step HB.out hb2)
  have HN2 := Lib.hid (HN.out.below hb2)
  clear HK hb2 HB HN t0 t1
  by_cases e0 : k = 0
  · subst e0
    rw [if_pos rfl] at HV
    go_wp2_with fail
    go_ret2
    exact ⟨by rw [HV.out]; rfl, HB2.out⟩
  have q0 : (k == 0) = false := by simpa using e0
  rw [if_neg e0] at HV
  obtain ⟨t0, t1⟩ := HN2.out
  dsimp only at t0 t1
  have HS2 := Lib.hid (HS.out _ HB2.out)
  clear HS
  go_wp2_with fail
  refine HS2.out.mono ?_
  rintro _ w3 ⟨rfl, hb3⟩
  have HB3 := Lib.hid (bel_step HB2.out hb3)
  have HT3 := Lib.hid (HT.out _ HB3.out)
  obtain ⟨ts, te⟩ := tt
  dsimp only at HT3
  clear HS2 hb3 HT t0 t1 HN2
  go_wp2_with fail
  refine HT3.out.mono ?_
  rintro _ w4 ⟨rfl, rfl⟩
  clear HT3
  go_wp2_with fail
  go_ret2
  exact ⟨by rw [HV.out]; rfl, HB3.out⟩
theorem row_lo {w : World} {lo lo' n c : Nat} {A : Option Addr} {f : Nat → UInt8} (h : bl.Row w lo A n c f) (hl : lo' ≤ lo) : bl.Row w lo' A n c f := ⟨h.1, h.2.imp id fun ⟨g, a, b, d⟩ => ⟨g, Nat.le_trans hl a, b, d⟩⟩
def ReadN (w : World) (U L : BS) (n : Nd) (off sz : Int) (e : Ending) (w' : World) : Prop :=
  (kindV U L n = 0 ∧ e = .returned (.tuple #[.slice none 0 0, .int .i64 2]) ∧ Below w.heap.size w w') ∨ (kindV U L n ≠ 0 ∧ ReadI w (readN U L n).1 (readN U L n).2 off sz e w')
set_option maxRecDepth 100000 in
set_option maxHeartbeats 4000000 in
theorem read_any {w : World} {V P1 P2 : Nat} {u l : Int} {U L : BS} (h : Vx w V P1 P2 u l U L) (n : Nd) (off sz : Int) : Calls Tryz.prog 24 #[Pq V, Nv n, .int .i64 off, .int .i64 sz] w (ReadN w U L n off sz) := by
  obtain ⟨w1, hw1, h1, hn1, hb1⟩ := box_in h n.1 n.2
  have HK := Lib.hid (kind_any h1 n)
  have HS := Lib.hid (fun W (hb : Below w.heap.size w W) => shown_any (h.below hb) n)
  have HT := Lib.hid (fun W (hb : Below w.heap.size w W) => (h.below hb).readB n off sz)
  have HV := Lib.hid (show ∀ A m c er W, kindV U L n ≠ 0 → Below w.heap.size w W → ReadI W (readN U L n).1 (readN U L n).2 off sz (.returned (.tuple #[.slice A m c, .int .i64 er])) W → True from fun _ _ _ _ _ _ _ _ => trivial)
  have HD0 := Lib.hid (show ∀ W, kindV U L n = 0 → Below w.heap.size w W → ReadN w U L n off sz (.returned (.tuple #[.slice none 0 0, .int .i64 2])) W from fun W a b => .inl ⟨a, rfl, b⟩)
  have HD1 := Lib.hid (show ∀ W A c, kindV U L n ≠ 0 → bl.Row W w.heap.size A (cb.readI (readN U L n).1 (readN U L n).2 off sz).2 c (fun j => ((readN U L n).1.at (readN U L n).2).body.dat (off.toNat + j)) → Below w.heap.size w W → ReadN w U L n off sz (.returned (.tuple #[.slice A (cb.readI (readN U L n).1 (readN U L n).2 off sz).2 c, .int .i64 (cb.readI (readN U L n).1 (readN U L n).2 off sz).1])) W from fun W A c a b d => .inr ⟨a, A, c, rfl, b, d⟩)
  unfold RetI at HK
  unfold RetW at HS
  unfold ReadI at HT
  generalize kindV U L n = k at *
  generalize (cb.readI (readN U L n).1 (readN U L n).2 off sz).1 = rn at *
  generalize (cb.readI (readN U L n).1 (readN U L n).2 off sz).2 = re at *
  generalize (fun j => ((readN U L n).1.at (readN U L n).2).body.dat (off.toNat + j)) = rf at *
  generalize (if n.1 ≠ 0 then P1 else P2) = P at *
  generalize (if n.1 ≠ 0 then n.1 else n.2) = i at *
  obtain ⟨g, hg⟩ : ∃ g, w.heap.size = g := ⟨_, rfl⟩
  have HB := Lib.hid hb1
  have HGW := Lib.hid hg
  rw [hg] at hn1
  obtain ⟨n1, n2⟩ := n
  have HN := Lib.hid hn1
  have t0 := hn1.c0
  have t1 := hn1.c1
  dsimp only at t0 t1 hw1
  clear h h1 hn1 hb1 HV
  go_enter Tryz.func24, Tryz.ntmps24
  go_wp2_with fail
  refine HK.out.mono ?_
  rintro _ w2 ⟨rfl, hb2⟩
  have HB2 := Lib.hid (bel_step HB.out hb2)
  have HN2 := Lib.hid (HN.out.below hb2)
  clear HK hb2 HB HN t0 t1
  by_cases e0 : k = 0
  · subst e0
    go_wp2_with fail
    go_ret2
    exact HD0.out _ (by first | rfl | trivial) HB2.out
  have q0 : (k == 0) = false := by simpa using e0
  have HE0 := Lib.hid e0
  obtain ⟨t0, t1⟩ := HN2.out
  dsimp only at t0 t1
  have HS2 := Lib.hid (HS.out _ HB2.out)
  clear HS e0
  go_wp2_with fail
  refine HS2.out.mono ?_
  rintro _ w3 ⟨rfl, hb3⟩
  have HB3 := Lib.hid (bel_step HB2.out hb3)
  have HT3 := Lib.hid (HT.out _ HB3.out)
  clear HS2 hb3 HT t0 t1 HN2
  go_wp2_with fail
  refine HT3.out.mono ?_
  rintro _ w4 ⟨A, c, rfl, hrow, hb4⟩
  have HB4 := Lib.hid (bel_step HB3.out hb4)
  have HRW := Lib.hid (show bl.Row w4 w.heap.size A re c rf from row_lo hrow HB3.out.size)
  clear HT3 hrow hb4
  go_wp2_with fail
  go_ret2
  exact HD1.out _ _ _ HE0.out HRW.out HB4.out
set_option maxRecDepth 100000 in
set_option maxHeartbeats 4000000 in
theorem stat_any {w : World} {V P1 P2 : Nat} {u l : Int} {U L : BS} {r1 r2 : Nat} (h : Vx w V P1 P2 u l U L) (hU : Inv U r1) (hL : Inv L r2) (n : Nd) : Calls Tryz.prog 19 #[Pq V, Nv n] w (StatE w U L n) := by
  obtain ⟨w1, hw1⟩ : ∃ w1, (w.alloc (.cells #[.int .i64 n.1, .int .i64 n.2] 24)).alloc (.cells #[.int .i64 0, .int .i64 0, .int .i64 0] 47) = w1 := ⟨_, rfl⟩
  have hb1 : Below w.heap.size w w1 := by rw [← hw1]; exact bel_step (bel_alloc _ _) (bel_alloc _ _)
  have hn1 : Nb w1 w.heap.size (n.1, n.2) := by rw [← hw1]; exact (Nb.new w n.1 n.2).below (bel_alloc _ _)
  have hr1 : R3 w1 (w.heap.size + 1) 0 0 0 := by rw [← hw1]; have := R3.new (w.alloc (.cells #[.int .i64 n.1, .int .i64 n.2] 24)) 0 0 0; rwa [World.size_alloc] at this
  have hz1 : w1.heap.size = w.heap.size + 1 + 1 := by rw [← hw1, World.size_alloc, World.size_alloc]
  have HK := Lib.hid (kind_any (h.below hb1) n)
  have HS := Lib.hid (fun W (hb : Below w.heap.size w W) => shown_any (h.below hb) n)
  have HT := Lib.hid (fun W (hb : Below w.heap.size w W) => (h.below hb).statB n)
  have HA := Lib.hid (fun W (hb : Below w.heap.size w W) => all_any (h.below hb) hU hL n)
  have HV := Lib.hid (fun c => show statN U L n c = (if kindV U L n = 0 then ((0, 0, 0), 2) else (((if n.1 ≠ 0 then U.stat n.1 else L.stat n.2).1.1, if kindV U L n = 2 then c else ((if n.1 ≠ 0 then U.stat n.1 else L.stat n.2).1.2.1 : Int), (if n.1 ≠ 0 then U.stat n.1 else L.stat n.2).1.2.2), (if n.1 ≠ 0 then U.stat n.1 else L.stat n.2).2)) from rfl)
  have HD := Lib.hid (show ∀ W (ll : List ByteArray), AllV U L n ll → Below w.heap.size w W → StatE w U L n (.returned (Sv3 (statN U L n ll.length))) W from fun W ll a b => ⟨ll, a, rfl, b⟩)
  have HN0 := Lib.hid (show kindV U L n ≠ 2 → AllV U L n [] from fun e => AllV.none (by rcases lst_cases U L n with ⟨a, _⟩ | ⟨_, a⟩ | ⟨a, _⟩; omega; exact absurd a e; omega))
  unfold RetI at HK
  unfold RetW at HS HT
  unfold AllE at HA
  obtain ⟨sn, hsn⟩ : ∃ sn, statN U L n = sn := ⟨_, rfl⟩
  rw [hsn] at HV HD
  clear hsn
  generalize kindV U L n = k at *
  generalize lstV U L n = le at *
  generalize (if n.1 ≠ 0 then U.stat n.1 else L.stat n.2) = tt at *
  obtain ⟨⟨ta, tb, tc⟩, te⟩ := tt
  dsimp only at HT HV
  generalize (if n.1 ≠ 0 then P1 else P2) = P at *
  generalize (if n.1 ≠ 0 then n.1 else n.2) = i at *
  generalize (tb : Int) = tz at *
  obtain ⟨g, hg⟩ : ∃ g, w.heap.size = g := ⟨_, rfl⟩
  have HB := Lib.hid hb1
  have HGB := Lib.hid hg
  have HZ := Lib.hid hz1
  rw [hg] at hn1 hr1 HZ
  obtain ⟨n1, n2⟩ := n
  have HN := Lib.hid hn1
  have HR := Lib.hid hr1
  have t0 := hn1.c0
  have t1 := hn1.c1
  dsimp only at t0 t1 hw1
  clear h hU hL hn1 hb1 hr1 hz1
  go_enter Tryz.func19, Tryz.ntmps19
  go_wp2_with fail
  refine HK.out.mono ?_
  rintro _ w2 ⟨rfl, hb2⟩
  have HB2 := Lib.hid (bel_step HB.out hb2)
  have HN2 := Lib.hid (HN.out.below hb2)
  have HR2 := Lib.hid (HR.out.below hb2)
  have HZ2 := Lib.hid (show g + 1 < w2.heap.size from (HR.out.below hb2).lt)
  clear hw1 HK hb2 HB HN HR HZ t0 t1
  by_cases e0 : k = 0
  · subst e0
    have HV0 := Lib.hid (HV.out 0)
    rw [if_pos rfl] at HV0
    have HNN := Lib.hid (HN0.out (by decide))
    obtain ⟨s0, s1, s2, v0, v1, v2⟩ := HR2.out
    have HRS := Lib.hid (fun a b c => (HR2).out.range a b c)
    have HBS := Lib.hid (fun a b c => set3_below (HB2).out (show w.heap.size ≤ g + 1 by have := HGB.out; omega) a b c)
    clear HV HN0
    go_wp2_with fail
    refine bodyPost_ret (results_row_tmp rfl _ _ (g + 1) _ _ rfl (HRS.out _ _ _) Tryz.underlying47 (by rfl) (by rfl)) rfl ?_
    have hD := HD.out _ [] HNN.out (HBS.out (.int .i64 0) (.int .i64 0) (.int .i64 0))
    rw [show ((([] : List ByteArray).length : Nat) : Int) = 0 from rfl, HV0.out] at hD
    exact hD
  have q0 : (k == 0) = false := by simpa using e0
  obtain ⟨t0, t1⟩ := HN2.out
  dsimp only at t0 t1
  have HS2 := Lib.hid (HS.out _ HB2.out)
  have HE0 := Lib.hid e0
  clear HS e0
  go_wp2_with fail
  refine HS2.out.mono ?_
  rintro _ w3 ⟨rfl, hb3⟩
  have HB3 := Lib.hid (bel_step HB2.out hb3)
  have HN3 := Lib.hid (HN2.out.below hb3)
  have HR3 := Lib.hid (HR2.out.below hb3)
  have HT3 := Lib.hid (HT.out _ HB3.out)
  clear HS2 hb3 HT t0 t1 HN2 HR2 HB2
  go_wp2_with fail
  refine HT3.out.mono ?_
  rintro _ w4 ⟨rfl, hb4⟩
  have HB4 := Lib.hid (bel_step HB3.out hb4)
  have HN4 := Lib.hid (HN3.out.below hb4)
  have HR4 := Lib.hid (HR3.out.below hb4)
  clear HT3 hb4 HB3 HN3 HR3
  obtain ⟨w5, hw5⟩ : ∃ w5, w4.alloc (.cells #[.int .i64 ta, .int .i64 tz, .int .i64 tc] 47) = w5 := ⟨_, rfl⟩
  have hb5 : Below w4.heap.size w4 w5 := by rw [← hw5]; exact bel_alloc _ _
  have HB5 := Lib.hid (bel_step HB4.out hb5)
  have HN5 := Lib.hid (HN4.out.below hb5)
  have HR5 := Lib.hid (HR4.out.below hb5)
  have HX5 := Lib.hid (show R3 w5 w4.heap.size ta tz tc by rw [← hw5]; exact R3.new w4 ta tz tc)
  obtain ⟨gs, hgs⟩ : ∃ gs, w4.heap.size = gs := ⟨_, rfl⟩
  rw [hgs] at HX5
  have HGS := Lib.hid (show g + 1 < gs from by have := HR4.out.lt; omega)
  clear hb5 HB4 HN4 HR4
  by_cases e2 : k = 2
  · subst e2
    obtain ⟨t0, t1⟩ := HN5.out
    dsimp only at t0 t1
    have HA5 := Lib.hid (HA.out _ HB5.out)
    clear HA
    go_wp2_with fail
    refine HA5.out.mono ?_
    rintro _ w6 ⟨A, c, ll, rfl, hal, -, hlc, hcm, -, hb6⟩
    have HAL := Lib.hid hal
    have HB6 := Lib.hid (bel_step HB5.out hb6)
    have HR6 := Lib.hid (HR5.out.below hb6)
    have HX6 := Lib.hid (HX5.out.below hb6)
    have HVL := Lib.hid (HV.out (ll.length : Int))
    simp only [if_true, if_pos, show ¬ ((2 : Int) = 0) by decide, if_false] at HVL
    have HDD := Lib.hid (HD.out · ll hal)
    generalize ll.length = m at *
    clear hal hb6 HA5 HB5 HN5 HR5 HX5 t0 t1 hw5 hgs HV HD HN0
    obtain ⟨x0, x1, x2, y0, y1, y2⟩ := HX6.out
    have HX7 := Lib.hid (HX6.out.mid (m : Int))
    have HB7 := Lib.hid (show Below w.heap.size w (w6.setCell ⟨gs, 1, none⟩ (.int .i64 (m : Int))) from set_below HB6.out (by have := HGS.out; have := HGB.out; omega) _)
    have HR7 := Lib.hid (show R3 (w6.setCell ⟨gs, 1, none⟩ (.int .i64 (m : Int))) (g + 1) 0 0 0 from HR6.out.same (heap_set (by have := HGS.out; omega)))
    go_upto_region 9 with fail
    clear HX6 HB6 HR6 x0 x1 x2 y0 y1 y2
    generalize w6.setCell ⟨gs, 1, none⟩ (.int .i64 (m : Int)) = w7 at *
    obtain ⟨x0, x1, x2, y0, y1, y2⟩ := HX7.out
    obtain ⟨s0, s1, s2, v0, v1, v2⟩ := HR7.out
    have HRS := Lib.hid (fun a b c => (HR7).out.range a b c)
    have HBS := Lib.hid (fun a b c => set3_below (HB7).out (show w.heap.size ≤ g + 1 by have := HGB.out; omega) a b c)
    go_wp2_with fail
    refine bodyPost_ret (results_row_tmp rfl _ _ (g + 1) _ _ rfl (HRS.out _ _ _) Tryz.underlying47 (by rfl) (by rfl)) rfl ?_
    have hD := HDD.out _ (HBS.out (.int .i64 ta) (.int .i64 (m : Int)) (.int .i64 tc))
    rw [HVL.out] at hD
    exact hD
  · have q2 : (k == 2) = false := by simpa using e2
    have HVL := Lib.hid (HV.out 0)
    rw [if_neg HE0.out, if_neg e2] at HVL
    have HNN := Lib.hid (HN0.out e2)
    obtain ⟨x0, x1, x2, y0, y1, y2⟩ := HX5.out
    obtain ⟨s0, s1, s2, v0, v1, v2⟩ := HR5.out
    have HRS := Lib.hid (fun a b c => (HR5).out.range a b c)
    have HBS := Lib.hid (fun a b c => set3_below (HB5).out (show w.heap.size ≤ g + 1 by have := HGB.out; omega) a b c)
    clear HA HV HN0
    go_wp2_with fail
    refine bodyPost_ret (results_row_tmp rfl _ _ (g + 1) _ _ rfl (HRS.out _ _ _) Tryz.underlying47 (by rfl) (by rfl)) rfl ?_
    have hD := HD.out _ [] HNN.out (HBS.out (.int .i64 ta) (.int .i64 tz) (.int .i64 tc))
    rw [show ((([] : List ByteArray).length : Nat) : Int) = 0 from rfl, HVL.out] at hD
    exact hD
end Go.Proofs.YtnnaoldpacbagaaGreat.mg
end
