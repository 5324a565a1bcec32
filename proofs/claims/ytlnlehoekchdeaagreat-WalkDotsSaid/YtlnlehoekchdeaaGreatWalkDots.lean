/- For every list of acts, every path of names and both ways of following the law WalkDots returns true, and what is handed in reads as it did; there are no conditions. -/
import Derived.Test.YtlnlehoekchdeaaGreatZ45
import Derived.Test.YtlnlehoekchdeaaGreatZ47
import Derived.Test.YtlnlehoekchdeaaGreatZ29
import Derived.Deep.RegionLaw
import Derived.Deep.RegionWith
import Derived.Deep.QuietTactic
import Derived.BigQuiet
import Derived.ProofKit
import Derived.OpenShut
import Derived.ShutString
import Derived.SizedLaws
namespace Go.Proofs.YtlnlehoekchdeaaGreat.walkDots
open Go.ChangeShapes Go.WideShapes Go.ChangeAt Go.RowKit
open Go.ChangeMaps (open_string shut_string)
open Go.Proofs.YtlnlehoekchdeaaGreat.cb
set_option linter.unusedVariables false

theorem own : ownKnob Tryz.prog.godebug = none := by kernel_rfl
theorem laid : laidOutB Tryz.prog = true := by kernel_rfl

open Go.Deep
open Go.Proofs.YtlnlehoekchdeaaGreat.br
open Go.Proofs.YtlnlehoekchdeaaGreat.bl (Pq)
open Go.Proofs.YtlnlehoekchdeaaGreat.wk (walkT DR dot1)
open Go.Proofs.YtlnlehoekchdeaaGreat.pa (Bs Sv Strs own_form addr_block info9)
theorem dr_snoc {r s : List ByteArray} (h : DR r s) (x : ByteArray) : DR (r ++ [x]) (s ++ [x]) := by
  induction h with
  | nil => exact .cons x .nil
  | cons y _ ih => exact .cons y ih
  | dot y _ ih => exact .dot y ih
theorem dr_snoc2 {r s : List ByteArray} (h : DR r s) (x : ByteArray) : DR (r ++ [x]) (s ++ [dot1] ++ [x]) := by
  induction h with
  | nil => exact .dot x (.cons x .nil)
  | cons y _ ih => exact .cons y ih
  | dot y _ ih => exact .dot y ih
theorem nsB_snoc (l : List Bs) (x : Bs) : nsB (l ++ [x]) = nsB l ++ [⟨x.toArray⟩] := by unfold nsB; rw [List.map_append]; rfl
structure QB (b : Nat) (w2 wr : World) (d : Bool) (L : List Bs) (AL : Option Addr) (cL : Nat) : Prop where
  q0 : wr.cell? ⟨b, 0, none⟩ = some (.slice AL L.length cL)
  q1 : wr.cell? ⟨b, 1, none⟩ = some (.bool d)
  fz : wr.frozen? ⟨b, 0, none⟩ = false
  own : pa.Own wr (b + 1) AL cL L
  bel : Below b w2 wr
theorem QB.lt {b : Nat} {w2 wr : World} {d : Bool} {L : List Bs} {AL : Option Addr} {cL : Nat} (h : QB b w2 wr d L AL cL) : b < wr.heap.size := World.block_lt_of_cell? _ _ h.q0
theorem QB.app {b : Nat} {w2 wr wx w1 : World} {d : Bool} {L : List Bs} {AL : Option Addr} {cL : Nat} {v1 : Value} {x : Bs} (h : QB b w2 wr d L AL cL) (hbx : Below wr.heap.size wr wx)
    (hown : w1.ownsRow (b + 1) 9 1 v1 (L.length + 1) (L.map Sv ++ [Sv x])) (hg : wx.grownBy w1 (Value.slice AL L.length cL).ownBlock) :
    ∃ A1 c1, v1 = .slice A1 (L.length + 1) c1 ∧ w1.cell? ⟨b, 0, none⟩ = some (.slice AL L.length cL) ∧ w1.frozen? ⟨b, 0, none⟩ = false ∧ Below b w2 w1 ∧ QB b w2 (w1.setCell ⟨b, 0, none⟩ (.slice A1 (L.length + 1) c1)) d (L ++ [x]) A1 c1 := by
  have hle : (L ++ [x]).length = L.length + 1 := by simp
  have hlt := h.lt
  have hb1 : Below (b + 1) wr w1 := (hbx.mono (by omega)).grown hg (by have := hbx.size; omega) (fun k hk => (World.ownsRow.lt h.own k hk).1)
  have hown' : w1.ownsRow (b + 1) 9 1 v1 (L.length + 1) ((L ++ [x]).map Sv) := by rw [List.map_append]; exact hown
  obtain ⟨A1, c1, rfl, ho, -⟩ := own_form hown'
  rw [hle]
  have e0 := (hb1.cell (p := ⟨b, 0, none⟩) (by show b < b + 1; omega)).trans h.q0
  have e1 := (hb1.cell (p := ⟨b, 1, none⟩) (by show b < b + 1; omega)).trans h.q1
  have ef := (hb1.frozen (p := ⟨b, 0, none⟩) (by show b < b + 1; omega)).trans h.fz
  refine ⟨A1, c1, rfl, e0, ef, h.bel.trans (hb1.mono (by omega)), ⟨by rw [hle]; exact World.cell?_setCell_same' _ _ _ (by rw [e0]; rfl), (World.cell?_setCell_other _ _ _ _ (by intro e; injection e with _ e; exact absurd e (by decide))).trans e1, by rw [World.frozen?_setCell]; exact ef, ho.set (by show b < b + 1; omega) _, (h.bel.trans (hb1.mono (by omega))).setCell (Nat.le_refl _) _⟩⟩
theorem own_le {w : World} {B c : Nat} {A : Option Addr} {L : List Bs} (h : pa.Own w B A c L) : L.length ≤ c := by
  rcases h.2 with ⟨_, h0⟩ | ⟨g, cap, cur, hv, _, _, hnc, _⟩
  · omega
  · injection hv with _ _ e3; omega
theorem step_str {w : World} {ops : Array Oper} {o : Oper} {a : Act} {K : Act → World → Prop} {Q : Exit → Act → World → Prop} {E : Prop} (hgd : o.guard = none) (s x : Operand)
    (ho : o.op = .call { callee := .builtin .append, args := #[s, x], argTypes := #[23, 23] })
    (base : Nat) (v : Value) (L : List Bs) (hs : a.eval s = v) (hown : w.ownsRow base 9 1 v L.length (L.map Sv)) (ad : Addr) (c : Nat) (y : Bs) (hx : a.eval x = .slice (some ad) 1 c) (hy : w.cell? (ad.add 0) = some (Sv y))
    (hlen : L.length ≤ 400) (hbase : base ≤ w.heap.size)
    (h : ∀ v' w', w'.ownsRow base 9 1 v' (L.length + 1) (L.map Sv ++ [Sv y]) → w.grownBy w' v.ownBlock → K (a.put o.dst v') w') :
    if Region.wanted o (yielded ops a.tmps) = true then Oper.wp Tryz.prog o a w K Q else E := by
  have hw : Region.wanted o (yielded ops a.tmps) = true := by simp [Region.wanted, hgd]
  rw [if_pos hw]
  obtain ⟨i0, hi, hz0, hz1, hz2⟩ := info_parts info9
  exact wp_append_own w s x 23 ho base 9 i0 _ 1 16 Tryz.underlying23 hi hz0 hz1 hz2 rfl (by decide) v L.length (L.map Sv) hs hown ad 1 c [Sv y] hx rfl (by
    intro j u hu
    cases j with
    | zero => simp at hu; subst hu; exact hy
    | succ j => simp at hu) (by intro u hu; simp at hu; subst hu; rfl) (by unfold maxLen; omega) (by omega) hbase (fun v' w' h1 h2 _ => h v' w' h1 h2)
theorem list_str {w : World} {ops : Array Oper} {rest : List Oper} {o : Oper} {a : Act} {Q : Exit → Act → World → Prop} (hgd : o.guard = none) (s x : Operand)
    (ho : o.op = .call { callee := .builtin .append, args := #[s, x], argTypes := #[23, 23] })
    (base : Nat) (v : Value) (L : List Bs) (hs : a.eval s = v) (hown : w.ownsRow base 9 1 v L.length (L.map Sv)) (ad : Addr) (c : Nat) (y : Bs) (hx : a.eval x = .slice (some ad) 1 c) (hy : w.cell? (ad.add 0) = some (Sv y))
    (hlen : L.length ≤ 400) (hbase : base ≤ w.heap.size)
    (h : ∀ v' w', w'.ownsRow base 9 1 v' (L.length + 1) (L.map Sv ++ [Sv y]) → w.grownBy w' v.ownBlock → wpList Tryz.prog ops Q rest (a.put o.dst v') w') : wpList Tryz.prog ops Q (o :: rest) a w := by
  obtain ⟨i0, hi, hz0, hz1, hz2⟩ := info_parts info9
  exact wpList_append_own w hgd s x 23 ho base 9 i0 _ 1 16 Tryz.underlying23 hi hz0 hz1 hz2 rfl (by decide) v L.length (L.map Sv) hs hown ad 1 c [Sv y] hx rfl (by
    intro j u hu
    cases j with
    | zero => simp at hu; subst hu; exact hy
    | succ j => simp at hu) (by intro u hu; simp at hu; subst hu; rfl) (by unfold maxLen; omega) (by omega) hbase (fun v' w' h1 h2 _ => h v' w' h1 h2)
set_option maxHeartbeats 4000000 in
set_option maxRecDepth 100000 in
theorem walk (A : Option Addr) (n c : Nat) (F : Nat → Act6) (A0 : Option Addr) (n0 c0 : Nat) (d0 : Bool) (x0 : List Bs) (fol : Bool) (w : World) (k1 : n ≤ c ∧ c ≤ maxLen) (hF : Acts w w.heap.size A n F)
    (hl0 : n0 = x0.length) (hc0 : n0 ≤ c0 ∧ c0 ≤ maxLen) (hs0 : Strs w w.heap.size A0 x0) :
    Calls Tryz.prog 9 #[.slice A n c, .agg #[.slice A0 n0 c0, .bool d0], .bool fol] w (AwakeE w) := by
  have hnm : n ≤ maxLen := Nat.le_trans k1.1 k1.2
  have HL0 := Lib.hid hl0
  have HC0 := Lib.hid hc0
  have HS0 := Lib.hid hs0
  have hwa := dn.below_alloc w (.cells #[.slice A0 n0 c0, .bool d0] 25)
  have p0 : (w.alloc (.cells #[.slice A0 n0 c0, .bool d0] 25)).cell? ⟨w.heap.size, 0, none⟩ = some (.slice A0 n0 c0) := by simp
  have p1 : (w.alloc (.cells #[.slice A0 n0 c0, .bool d0] 25)).cell? ⟨w.heap.size, 1, none⟩ = some (.bool d0) := by simp
  have hsa : (w.alloc (.cells #[.slice A0 n0 c0, .bool d0] 25)).heap.size = w.heap.size + 1 := World.size_alloc _ _
  have hFa : Acts (w.alloc (.cells #[.slice A0 n0 c0, .bool d0] 25)) (w.alloc (.cells #[.slice A0 n0 c0, .bool d0] 25)).heap.size A n F := by
    rw [hsa]; intro i hi; obtain ⟨b, off, e, hB, r⟩ := (hF.below hwa) i hi; exact ⟨b, off, e, by omega, r⟩
  obtain ⟨wa, hwe⟩ : ∃ wa, w.alloc (.cells #[.slice A0 n0 c0, .bool d0] 25) = wa := ⟨_, rfl⟩
  rw [hwe] at hwa p0 p1 hsa hFa
  have HWE := Lib.hid hwe
  have HBW := Lib.hid hwa
  have HP := Lib.hid (⟨p0, p1, hsa⟩ : _ ∧ _ ∧ _)
  have HBD := Lib.hid (fun w1 (hb : Below wa.heap.size wa w1) => bld_any A n c F wa w1 hnm hFa hb)
  clear k1 hF hnm hl0 hc0 hs0 hwa p0 p1 hsa hFa hwe
  go_enter Tryz.func9, Tryz.ntmps9
  go_wp2_with fail
  rw [HWE.out]
  refine (awake_any _).mono ?_
  rintro _ w1 ⟨rfl, hb1⟩
  have HB1 := Lib.hid (HBD.out _ hb1)
  clear hb1 HBD HWE
  go_wp2_with fail
  refine HB1.out.mono ?_
  rintro _ w2 ⟨ok, P, D, S, rfl, h2⟩
  have H2 := Lib.hid h2
  have HBB := Lib.hid (show Below w.heap.size w w2 from dn.below_step HBW.out h2.bel)
  have hpa : w2.cell? ⟨w.heap.size, 0, none⟩ = some (.slice A0 n0 c0) := (h2.bel.cell (p := ⟨w.heap.size, 0, none⟩) (by rw [HP.out.2.2]; show w.heap.size < _; omega)).trans HP.out.1
  have hpb : w2.cell? ⟨w.heap.size, 1, none⟩ = some (.bool d0) := (h2.bel.cell (p := ⟨w.heap.size, 1, none⟩) (by rw [HP.out.2.2]; show w.heap.size < _; omega)).trans HP.out.2.1
  have HPA := Lib.hid (⟨hpa, hpb⟩ : _ ∧ _)
  clear h2 HB1 HP HBW
  cases ok with
  | false =>
    go_wp2_with fail
    go_ret
    exact ⟨rfl, HBB.out⟩
  | true =>
    by_cases h20 : n0 ≤ 20
    case neg =>
      have hi20 : (20 : Int) < n0 := by omega
      clear h20
      go_wp2_with fail
      go_ret
      exact ⟨rfl, HBB.out⟩
    have hi20 : ¬ ((20 : Int) < n0) := by omega
    have H20 := Lib.hid h20
    clear h20
    have hwp : w.heap.size < w2.heap.size := World.block_lt_of_cell? _ _ hpa
    obtain ⟨b, hbq⟩ : ∃ b, w2.heap.size = b := ⟨_, rfl⟩
    have HBP := Lib.hid (fun wr (h : Below b w2 wr) => (show wr.cell? ⟨w.heap.size, 0, none⟩ = some (.slice A0 n0 c0) ∧ wr.cell? ⟨w.heap.size, 1, none⟩ = some (.bool d0) from
      ⟨(h.cell (p := ⟨w.heap.size, 0, none⟩) (by show w.heap.size < b; omega)).trans HPA.out.1, (h.cell (p := ⟨w.heap.size, 1, none⟩) (by show w.heap.size < b; omega)).trans HPA.out.2⟩))
    have HS2 := Lib.hid (fun wr (h : Below b w2 wr) => (show Strs wr w.heap.size A0 x0 from HS0.out.below (HBB.out.trans (h.mono (by omega)))))
    have pq := (HBP.out (w2.alloc (.cells #[.slice none 0 0, .bool d0] 25)) (by subst hbq; exact dn.below_alloc w2 _)).1
    go_wp2_with fail
    go_loopg [40] n0 (fun g i wr => ∃ (k : Nat) (L : List Bs) (AL : Option Addr) (cL : Nat), k ≤ n0 ∧ g + k = n0 ∧ i = .int .i64 k ∧ Hid (DR (nsB (x0.take k)) (nsB L)) ∧ Hid (L.length ≤ 2 * k ∧ (k = 0 → L = [])) ∧ Hid (QB b w2 wr d0 L AL cL))
    case atStart =>
      refine ⟨0, [], none, 0, by omega, by omega, rfl, Lib.hid (by rw [List.take_zero]; exact .nil), Lib.hid ⟨by simp, fun _ => rfl⟩, Lib.hid ?_⟩
      subst hbq
      exact ⟨by simp, by simp, by simp, World.ownsRow_nil _ _ _ _, dn.below_alloc w2 _⟩
    case round =>
      obtain ⟨k, L, AL, cL, hk, hg, rfl, HDR, HLN, HQB⟩ := hrel
      have q0 := HQB.out.q0
      have qf := HQB.out.fz
      obtain ⟨pp0, -⟩ := HBP.out wr HQB.out.bel
      by_cases hlt : k < n0
      · obtain ⟨ad, x, rfl, hab, hx, hcell⟩ := (HS2.out wr HQB.out.bel).get (k := k) (by have := HL0.out; omega)
        have HSX := Lib.hid (fun wr (h : Below b w2 wr) => (show wr.cell? (ad.add k) = some (Sv x) from by
          obtain ⟨ad', e, _, hh⟩ := HS2.out wr h (by have := HL0.out; omega)
          cases e
          exact hh k x hx))
        have HTK := Lib.hid (show x0.take (k + 1) = x0.take k ++ [x] by
          obtain ⟨hk', rfl⟩ := List.getElem?_eq_some_iff.1 hx
          exact List.take_succ_eq_append_getElem hk')
        clear hcell hx hab
        by_cases hk0 : k = 0
        · subst hk0
          obtain rfl := HLN.out.2 rfl
          have HLE := Lib.hid (show ([] : List Bs).length ≤ 400 by simp)
          have HSY := Lib.hid (fun wr (h : Below b w2 wr) => (show wr.cell? ad = some (Sv x) from by
            have h1 := HSX.out wr h
            obtain ⟨bb, off, rfl, -⟩ := spot_none h1
            exact h1))
          have HXB := Lib.hid (fun ob => (show Below wr.heap.size wr (wr.alloc ob) from dn.below_alloc wr ob))
          have g0 := HQB.out.q0
          have gp : wr.cell? ⟨w.heap.size, 0, none⟩ = some (.slice (some ad) n0 c0) := (HBP.out wr HQB.out.bel).1
          have gx : wr.cell? (ad) = some (Sv x) := HSY.out wr HQB.out.bel
          have G0 := (fun ob => (World.cell?_of_block (a := ⟨b, 0, none⟩) ((HXB.out ob).block b HQB.out.lt)).trans g0) (.cells #[Sv x] 9)
          have GP := Lib.hid (fun ob => (World.cell?_of_block (a := ⟨w.heap.size, 0, none⟩) ((HXB.out ob).block _ (World.block_lt_of_cell? _ _ gp))).trans gp)
          have GX := Lib.hid (fun ob => (World.cell?_of_block (a := ad) ((HXB.out ob).block _ (World.block_lt_of_cell? _ _ gx))).trans gx)
          go_upto_region 12 with fail
          go_region_law
            (first | (refine step_str rfl (.tmp 51) (.tmp 57) rfl (b + 1) _ [] rfl (World.ownsRow.alloc HQB.out.own _) _ 1 x rfl (cell_one_new _ _ _ 0 _ rfl) (by have := HLE.out; omega) (by have := HQB.out.lt; simp; omega) ?_; intro v1 w5 hown5 hg5; obtain ⟨A5, c5, rfl, k0, kf, hbq5, hq5⟩ := HQB.out.app (dn.below_step (HXB.out _) ((Below.refl _ _).drew)) hown5 hg5; have HQ5 := Lib.hid hq5; have k1 := (HBP.out w5 hbq5).1; have k2 := HSY.out w5 hbq5))
          all_goals
            go_wp2_with fail
            go_roundg (gk - 1)
            case measure => omega
            case rel => exact ⟨0 + 1, [] ++ [x], A5, c5, by omega, by omega, by go_num, Lib.hid (by rw [HTK.out, nsB_snoc, nsB_snoc]; exact dr_snoc HDR.out _), Lib.hid ⟨by simp, by omega⟩, HQ5⟩
        · have hkp : (0 : Int) < k := by omega
          have HLE := Lib.hid (show (L ++ [[46]]).length ≤ 400 ∧ (L ++ [[46]]).length ≤ 2 * k + 1 by have := HLN.out.1; have := H20.out; simp; omega)
          go_upto_region 12 with (at_builtin; go_must (refine list_str rfl (.tmp 46) (.tmp 47) rfl (b + 1) _ L rfl (World.ownsRow.alloc HQB.out.own _) _ 1 [46] rfl (cell_one_new _ _ _ 0 _ rfl) (by have := HLN.out.1; have := H20.out; omega) (by have := HQB.out.lt; simp; omega) ?_); intro v1 w3 hown3 hg3; obtain ⟨A3, c3, rfl, m0, mf, hbq3, hq3⟩ := HQB.out.app (dn.below_alloc wr _) hown3 hg3; have HQ3 := Lib.hid hq3)
          obtain ⟨w4, hw4⟩ : ∃ w4, w3.setCell ⟨b, 0, none⟩ (.slice A3 (L.length + 1) c3) = w4 := ⟨_, rfl⟩
          rw [hw4] at HQ3
          rw [hw4]
          clear hg3 hown3 hq3 hbq3 m0 mf q0 qf pp0 hw4
          have HLS := Lib.hid (nsB_snoc L [46])
          obtain ⟨L2, hL2⟩ : ∃ L2, L ++ [[46]] = L2 := ⟨_, rfl⟩
          rw [hL2] at HLE HLS HQ3
          clear hL2
          have qf := HQ3.out.fz
          have HXB := Lib.hid (fun ob => (show Below w4.heap.size w4 (w4.alloc ob) from dn.below_alloc w4 ob))
          have g0 := HQ3.out.q0
          have gp : w4.cell? ⟨w.heap.size, 0, none⟩ = some (.slice (some ad) n0 c0) := (HBP.out w4 HQ3.out.bel).1
          have gx : w4.cell? (ad.add k) = some (Sv x) := HSX.out w4 HQ3.out.bel
          have G0 := (fun ob => (World.cell?_of_block (a := ⟨b, 0, none⟩) ((HXB.out ob).block b HQ3.out.lt)).trans g0) (.cells #[Sv x] 9)
          have GP := Lib.hid (fun ob => (World.cell?_of_block (a := ⟨w.heap.size, 0, none⟩) ((HXB.out ob).block _ (World.block_lt_of_cell? _ _ gp))).trans gp)
          have GX := Lib.hid (fun ob => (World.cell?_of_block (a := ad.add k) ((HXB.out ob).block _ (World.block_lt_of_cell? _ _ gx))).trans gx)
          go_upto_region 12 with fail
          go_region_law
            (first | (refine step_str rfl (.tmp 51) (.tmp 57) rfl (b + 1) _ L2 rfl (World.ownsRow.alloc HQ3.out.own _) _ 1 x rfl (cell_one_new _ _ _ 0 _ rfl) (by have := HLE.out; omega) (by have := HQ3.out.lt; simp; omega) ?_; intro v1 w5 hown5 hg5; obtain ⟨A5, c5, rfl, k0, kf, hbq5, hq5⟩ := HQ3.out.app (dn.below_step (HXB.out _) ((Below.refl _ _).drew)) hown5 hg5; have HQ5 := Lib.hid hq5; have k1 := (HBP.out w5 hbq5).1; have k2 := HSX.out w5 hbq5))
          all_goals
            go_wp2_with fail
            go_roundg (gk - 1)
            case measure => omega
            case rel => exact ⟨k + 1, L2 ++ [x], A5, c5, by omega, by omega, by go_num, Lib.hid (by rw [HTK.out, nsB_snoc, nsB_snoc, HLS.out]; exact dr_snoc2 HDR.out _), Lib.hid ⟨by have := HLE.out.2; simp; omega, by omega⟩, HQ5⟩
      · have hge : ¬ ((k : Int) < n0) := by omega
        have hkn : k = x0.length := by have := HL0.out; omega
        have H3 := Lib.hid (H2.out.below (show Below w2.heap.size w2 wr by rw [hbq]; exact HQB.out.bel))
        have HCL := Lib.hid (own_le HQB.out.own)
        have HLL := Lib.hid (show L.length ≤ 400 by have := HLN.out.1; have := H20.out; omega)
        have A1 := Lib.hid (top_any (d := d0) (fol := fol) H3.out.ctr HL0.out (by have := H20.out; omega) HC0.out.1 ((HS2.out wr HQB.out.bel).more (by have := HQB.out.lt; omega)))
        have A2 := Lib.hid (fun W (h : Ctr W P S) (hs : Strs W W.heap.size AL L) => top_any (d := d0) (fol := fol) h rfl HLL.out HCL.out hs)
        have WD := Lib.hid (wk.walk_dots (trS S) fol 40 1 (nsB x0) (nsB L) d0 (by have := HDR.out; rwa [hkn, List.take_length] at this))
        have HOS := Lib.hid (show Strs wr wr.heap.size AL L from pa.Own.strs HQB.out.own)
        have HQL := Lib.hid HQB.out.lt
        have q1 := HQB.out.q1
        obtain ⟨pq0, pq1⟩ := HBP.out wr HQB.out.bel
        have HBWr := Lib.hid (HBB.out.trans (show Below w.heap.size w2 wr from HQB.out.bel.mono (by omega)))
        obtain ⟨R1, hR1⟩ : ∃ R, walkT (trS S) fol 40 1 (nsB x0) d0 = R := ⟨_, rfl⟩
        obtain ⟨R2, hR2⟩ : ∃ R, walkT (trS S) fol 40 1 (nsB L) d0 = R := ⟨_, rfl⟩
        rw [hR1] at A1 WD
        rw [hR2] at A2 WD
        clear hR1 hR2 hkn HDR HLN
        obtain ⟨⟨xa, xn, xi⟩, xe⟩ := R1
        obtain ⟨⟨ya, yn, yi⟩, ye⟩ := R2
        unfold TopE FoundV at A1 A2
        dsimp only at A1 A2 WD
        go_wp2_with fail
        refine A1.out.mono ?_
        rintro _ w3 ⟨rfl, hb3⟩
        have HB3 := Lib.hid (fun ob => dn.below_step hb3 (dn.below_alloc w3 ob))
        have H4 := Lib.hid (fun ob => H3.out.below (HB3.out ob))
        have F1 := Lib.hid (Fb.new w3 (xa, xn, xi))
        obtain ⟨G1, hG1⟩ : ∃ G, w3.heap.size = G := ⟨_, rfl⟩
        rw [hG1] at F1
        dsimp only at F1
        have e0 : ∀ ob, (w3.alloc ob).cell? ⟨b, 0, none⟩ = some (.slice AL L.length cL) := fun ob => ((HB3.out ob).cell (p := ⟨b, 0, none⟩) HQL.out).trans q0
        have e1 : ∀ ob, (w3.alloc ob).cell? ⟨b, 1, none⟩ = some (.bool d0) := fun ob => ((HB3.out ob).cell (p := ⟨b, 1, none⟩) HQL.out).trans q1
        clear hb3 A1 H2
        go_wp2_with fail
        refine (A2.out _ (H4.out _).ctr ((HOS.out.below (HB3.out _)).more (HB3.out _).size)).mono ?_
        rintro _ w4 ⟨rfl, hb4⟩
        have F14 := Lib.hid (F1.out.below hb4)
        clear hG1
        have F2 := Lib.hid (Fb.new w4 (ya, yn, yi))
        obtain ⟨G2, hG2⟩ : ∃ G, w4.heap.size = G := ⟨_, rfl⟩
        rw [hG2] at F2
        dsimp only at F2
        have HF := Lib.hid (fun ob => dn.below_step HBWr.out (dn.below_step (HB3.out _) (dn.below_step hb4 (dn.below_alloc w4 ob))))
        clear hb4 A2 F1
        have p0 : ∀ ob, (w4.alloc ob).cell? ⟨G1, 0, none⟩ = some (.int .i64 xa) := fun ob => ((F14.out).below (dn.below_alloc w4 ob)).1
        have p1 : ∀ ob, (w4.alloc ob).cell? ⟨G1, 1, none⟩ = some (.string xn) := fun ob => ((F14.out).below (dn.below_alloc w4 ob)).2.1
        have p2 : ∀ ob, (w4.alloc ob).cell? ⟨G1, 2, none⟩ = some (.int .i64 xi) := fun ob => ((F14.out).below (dn.below_alloc w4 ob)).2.2
        have hg := guard32
        have hq := fun W => run_eql32 (xa, xn, xi) (ya, yn, yi) W
        rcases WD.out with hr | hr
        · simp only [Prod.mk.injEq] at hr
          obtain ⟨⟨rfl, rfl, rfl⟩, rfl⟩ := hr
          rw [decide_eq_true rfl] at hq
          try dsimp only at hq
          go_wp2_with fail
          go_ret
          exact ⟨by simp, HF.out _⟩
        · subst hr
          by_cases hE : ((xa, xn, xi) : Fo) = (ya, yn, yi)
          · rw [decide_eq_true hE] at hq
            try dsimp only at hq
            clear hE
            by_cases hxe : xe = 36
            · subst hxe
              go_wp2_with fail
              go_ret
              exact ⟨by simp, HF.out _⟩
            · have qx : (xe == 36) = false := by simpa using hxe
              clear hxe
              go_wp2_with fail
              go_ret
              exact ⟨by simp, HF.out _⟩
          · rw [decide_eq_false hE] at hq
            try dsimp only at hq
            clear hE
            go_wp2_with fail
            go_ret
            exact ⟨by simp, HF.out _⟩

set_option maxRecDepth 100000 in
theorem lifted (os : Os) (started : os.Started) (H : Type) (enc : TypeId × Value → H) :
    ReturnsInHanded {} Tryz.checked os 9 .any (Rows.walkDotsSpec.pre6 enc Tryz.prog Tryz.f9 Rows.walkDotsRow.domain false) (Rows.walkDotsSpec.post enc Tryz.prog Tryz.f9 false true false false) := by
  refine returnsInHanded_of_change_sized (C := Tryz.checked) own started (by kernel_rfl) Tryz.func9
    (ChangeSpec.witness6 (enc := enc) (C := Tryz.checked) false ⟨#[], #[.slice none 0 0, .agg #[.slice none 0 0, .bool false], .bool false], []⟩ 8 (by kernel_rfl) (by kernel_rfl) (by kernel_rfl) (by kernel_rfl)) ?_
  intro W base args ds gs before hval0 hW hcnd hsz _
  have hval : ∀ (j : Nat) t v, Tryz.f9.params[j]? = some t → args[j]? = some v → Value.okWide Tryz.prog W .any base t v := hval0
  have hW' := hW
  obtain ⟨p, q, hA0, hV, rfl, hfz, hnd⟩ := hW
  have hA : DataW.TrodAll enc Tryz.prog W 0 (fun _ => true) true Tryz.f9.params.toList args.toList ds p := hA0
  rw [Tryz.params9] at hA hval
  obtain ⟨v0, vs0, d0, ds0, p0, q0, hargs, rfl, rfl, h0, r0⟩ := trodAll_cons hA
  obtain ⟨v1, vs1, d1, ds1, p1, q1, rfl, rfl, rfl, h1, r1⟩ := trodAll_cons r0
  obtain ⟨v2, vs2, d2, ds2, p2, q2, rfl, rfl, rfl, h2, r2⟩ := trodAll_cons r1
  obtain ⟨rfl, rfl, rfl⟩ := trodAll_nil r2
  obtain rfl : args = #[v0, v1, v2] := by cases args; simp_all
  obtain ⟨rfl, rfl⟩ := trodVars_none hV
  have hlt := fun x hx => hW'.lt x hx
  have t0 := h0
  obtain ⟨A0, n0, c0, x0, rfl, e0, s0⟩ := open_acts (hval 0 22 v0 rfl rfl) h0
  have t1 := h1
  obtain ⟨A1, n1, c1, d1, x1, rfl, l1, e1, s1⟩ := open_path (hval 1 25 v1 rfl rfl) h1
  obtain ⟨a2, rfl, rfl, rfl⟩ := open_bool Tryz.underlying4 (hval 2 4 v2 rfl rfl) h2
  clear hA0 hval0
  refine (walk A0 n0 c0 x0 A1 n1 c1 d1 x1 a2 W e0 s0 l1 e1 s1).mono fun e W' ⟨he, hg⟩ => ?_
  subst he
  exact ⟨_, rfl, law_post (pv := []) hW' (fun _ _ _ => (trodAll_cons_mk (shut_bool Tryz.underlying4 _) trodAll_mk0)) (fun sp hsp => (trodAll_cons_mk (arg_stays t0 hg (by simp +contextual) hlt hsp laid) (trodAll_cons_mk (path_stays t1 hg (by simp +contextual) hlt hsp laid) (trodAll_cons_mk (shut_bool Tryz.underlying4 _) trodAll_mk0)))) (fun _ _ => rfl) (by simp)
    hg (ok_one (by kernel_rfl) rfl (okWide_bool_mk Tryz.underlying4 _))⟩

theorem over : Rows.walkDotsRow.holds Tryz.pinned (OpenSpec.ofChange Rows.walkDotsSpec) :=
  OpenClaim.holds_of_wide 9 Tryz.f9 rfl rfl rfl rfl rfl rfl rfl ⟨rfl, rfl, rfl, rfl, rfl⟩ rfl rfl rfl rfl rfl (by kernel_rfl) Tryz.func9 (by kernel_rfl)
    (of_decide_eq_true (by kernel_rfl)) (by unfold Func.isWrapper; first | (rw [if_pos (by decide +kernel)]; kernel_rfl) | (rw [if_neg (by decide +kernel)]; exact ⟨rfl, rfl⟩))
    (fun os started H enc _ => lifted os started H enc)

/-- The statement. -/
theorem proved : Rows.WalkDotsSaid :=
  over
end Go.Proofs.YtlnlehoekchdeaaGreat.walkDots
