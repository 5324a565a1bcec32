/- For every list of calls, every text and every further list of calls the law TreeDirs returns true, and what is handed in reads as it did; there are no conditions. -/
import Derived.Test.YtpmpbmjjlccbbaaGreatZ53
import Derived.Test.YtpmpbmjjlccbbaaGreatZ38
import Derived.Test.YtpmpbmjjlccbbaaGreatTp
import Derived.Test.YtpmpbmjjlccbbaaGreatRows
import Derived.Maps.AppendAt
import Derived.Laws.StructEq
import Derived.Deep.RegionWith
import Derived.Deep.QuietTactic
import Derived.BigQuiet
import Derived.ProofKit
import Derived.OpenShut
import Derived.ShutString
import Derived.Deep.LoopGhost
import Derived.StillTailTactics
namespace Go.Proofs.YtpmpbmjjlccbbaaGreat.treeDirs
open Go.ChangeShapes Go.WideShapes Go.ChangeAt Go.RowKit
open Go.ChangeMaps (open_string shut_string)
open Go.Proofs.YtpmpbmjjlccbbaaGreat.tr
set_option linter.unusedVariables false
set_option linter.unusedSimpArgs false

theorem own : ownKnob Tryz.prog.godebug = none := by kernel_rfl
theorem laid : laidOutB Tryz.prog = true := by kernel_rfl

open Go.Proofs.YtpmpbmjjlccbbaaGreat.br (BS Inv Ino fresh)
open Go.Proofs.YtpmpbmjjlccbbaaGreat.bl (Pq)
open Go.Proofs.YtpmpbmjjlccbbaaGreat.ds (De Tb em getV setT allT full IntsE)
open Go.Proofs.YtpmpbmjjlccbbaaGreat.wk (e0)
abbrev RVal (e n : Int) (s : ByteArray) (a b c : Int) : Value := .agg #[.int .i64 e, .int .i64 n, .string s, .int .i64 a, .int .i64 b, .int .i64 c]
theorem run_equal37 (d : Nat) (a b c : Int) (w : World) : (Op.equalIn (d + 2) 37 (.agg #[.int .i64 a, .int .i64 b, .int .i64 c]) (.agg #[.int .i64 a, .int .i64 b, .int .i64 c])).run Tryz.prog w = .ok true w := by
 have hS : Tryz.prog.underlying 37 = some (.struct (Tryz.prog.fieldsOf 37)) := by kernel_rfl
 have hp : Tryz.prog.stoodInHeld 37 = false := by kernel_rfl
 have u3 := Tryz.underlying3
 have a3 := Tryz.isAgg3
 have z3 := Tryz.sizeOf3
 rw [run_equalIn_agg w (d + 1) 37 _ _ hS hp]
 simp only [Program.fieldsOf, Tryz.underlying37]
 go_simp
theorem run_equal39 (e n : Int) (s : ByteArray) (a b c : Int) (w : World) : (Op.equalIn 10000 39 (RVal e n s a b c) (RVal e n s a b c)).run Tryz.prog w = .ok true w := by
 have hS : Tryz.prog.underlying 39 = some (.struct (Tryz.prog.fieldsOf 39)) := by kernel_rfl
 have hp : Tryz.prog.stoodInHeld 39 = false := by kernel_rfl
 have h37 := run_equal37 9997 a b c w
 have u2 := Tryz.underlying2
 have u35 := Tryz.underlying35
 have u9 := Tryz.underlying9
 have a2 := Tryz.isAgg2
 have z2 := Tryz.sizeOf2
 have a9 := Tryz.isAgg9
 have z9 := Tryz.sizeOf9
 have a35 := Tryz.isAgg35
 have z35 := Tryz.sizeOf35
 have a37 := Tryz.isAgg37
 have z37 := Tryz.sizeOf37
 rw [show (10000 : Nat) = 9999 + 1 from rfl, run_equalIn_agg w 9999 39 _ _ hS hp]
 simp only [Program.fieldsOf, Tryz.underlying39]
 rw [show (9999 : Nat) = 9998 + 1 from rfl] at *
 simp [go_sem, *]
theorem eql39 (e n : Int) (s : ByteArray) (a b c : Int) (w : World) : (binOp .eql 39 (RVal e n s a b c) (RVal e n s a b c)).run Tryz.prog w = .ok (.bool true) w := by
 rw [run_eql_struct, run_equal39]; rfl
theorem guard39 (op : BinOp) (a b : Operand) (xs ys : Array Value) (w : World) : (eqGuard op 39 a b (.agg xs) (.agg ys)).run Tryz.prog w = .ok () w := run_eqGuard_agg w op 39 a b xs ys (by kernel_rfl)
theorem getV_set {T : Tb} {fd : Int} {d d' : De} (hg : getV T fd = (d, 0)) : getV (setT T fd d') fd = (d', 0) := by
  obtain ⟨k, rfl, hk, hT, hs⟩ := spot_of hg
  have e : setT T (k : Int) d' = ds.put T k (some d') := by unfold setT; rw [hs]; rfl
  rw [e]
  unfold getV ds.spot
  rw [if_pos ⟨by omega, by omega⟩, Int.toNat_natCast, ds.put_same]
theorem info_parts9 : ∃ i : TypeInfo, Tryz.prog.info? 9 = some i ∧ i.zero = some (.string ⟨#[]⟩) ∧ i.size = 1 ∧ i.bytes = 16 := ⟨(Tryz.prog.info? 9).get (by kernel_rfl), by kernel_rfl, by kernel_rfl, by kernel_rfl, by kernel_rfl⟩
abbrev Sn (x : List UInt8) : Value := .string ⟨x.toArray⟩
theorem own_ge {w : World} {base n : Nat} {v : Value} {xs : List Value} (h : w.ownsRow base 9 1 v n xs) : ∀ k, v.ownBlock = some k → base ≤ k ∧ k < w.heap.size := by
  intro k hk
  rcases h.2 with ⟨hv, _⟩ | ⟨g, cap, cur, hv, hb, hg, _⟩
  · rw [hv] at hk; cases hk
  · rw [hv] at hk
    injection hk with hk
    subst hk
    exact ⟨hb, (Array.getElem?_eq_some_iff.1 hg).1⟩
theorem own_same {w w' : World} {base n : Nat} {v : Value} {xs : List Value} (h : w.ownsRow base 9 1 v n xs) (hv : ∀ g, v.ownBlock = some g → w'.heap[g]? = w.heap[g]?) : w'.ownsRow base 9 1 v n xs := by
  refine ⟨h.1, ?_⟩
  rcases h.2 with e | ⟨g, cap, cur, h1, h2, h3, h4⟩
  · exact .inl e
  · exact .inr ⟨g, cap, cur, h1, h2, (hv g (by rw [h1]; rfl)).trans h3, h4⟩
theorem own_names {w : World} {base : Nat} {v : Value} {ns : List (List UInt8)} (h : w.ownsRow base 9 1 v ns.length (ns.map Sn)) :
    ∃ A c, v = .slice A ns.length c ∧ ns.length ≤ c ∧ c ≤ maxLen ∧ ∀ k x, ns[k]? = some x → ∃ G, A = some ⟨G, 0, none⟩ ∧ w.cell? ⟨G, k, none⟩ = some (Sn x) := by
  rcases h.2 with ⟨hv, h0⟩ | ⟨g, cap, cur, hv, hb, hg, h1, h2, h3, h4⟩
  · have e : ns = [] := List.eq_nil_of_length_eq_zero h0
    subst e
    exact ⟨none, 0, hv, Nat.le_refl _, by unfold maxLen; omega, fun k x hx => by cases hx⟩
  · refine ⟨some ⟨g, 0, none⟩, cap, hv, h1, h2, fun k x hx => ⟨g, rfl, ?_⟩⟩
    have hk := (List.getElem?_eq_some_iff.1 hx).1
    have hc : cur[k]? = some (Sn x) := by
      rw [← Array.getElem?_toList]
      have h5 : (cur.toList.take (ns.length * 1))[k]? = some (Sn x) := by rw [h4, List.getElem?_map, hx]; rfl
      rw [List.getElem?_take] at h5
      split at h5
      · exact h5
      · cases h5
    unfold World.cell?
    rw [hg]
    exact hc
theorem lit_names {w : World} {B : Nat} (h : B ≤ w.heap.size) : (w.alloc (.cells #[] 9)).ownsRow B 9 1 (.slice (some ⟨w.heap.size, 0, none⟩) 0 0) 0 [] :=
  ⟨rfl, .inr ⟨w.heap.size, 0, #[], rfl, h, by show (w.heap.push (.cells #[] 9))[w.heap.size]? = _; exact Array.getElem?_push_size, Nat.le_refl _, by unfold maxLen; omega, rfl, rfl⟩⟩
/-- The system, the row of names and the box of what Stat told. -/
structure TD (w wr : World) (P B Q : Nat) (v : Value) (ns : List (List UInt8)) (X : Nat → Prop) (y : Sy) (T G : Nat) (vs : List Value) : Prop where
  s : SyX w wr P B Q X y 65536 T
  r : wr.ownsRow w.heap.size 9 1 v ns.length (ns.map Sn)
  p : ∀ k, v.ownBlock = some k → X k ∧ k ≠ G
  b : Rw wr G vs
  g : X G
section
variable {w wr w' : World} {P B Q T T' G : Nat} {v v' : Value} {ns : List (List UInt8)} {X : Nat → Prop} {y y' : Sy} {vs : List Value}
theorem TD.call (h : TD w wr P B Q v ns X y T G vs) (s1 : SyX w w' P B Q X y' 65536 T') (s2 : Keeps X wr w') : TD w w' P B Q v ns X y' T' G vs :=
  ⟨s1, own_same h.r fun g hg => s2 g (h.p g hg).1, h.p, h.b.same (s2 G h.g) (s1.lt h.g), h.g⟩
theorem TD.below (h : TD w wr P B Q v ns X y T G vs) (hb : Below wr.heap.size wr w') : TD w w' P B Q v ns X y T G vs := h.call (h.s.below hb) (h.s.keeps hb)
theorem TD.over (h : TD w wr P B Q v ns X y T G vs) (hb : Below wr.heap.size wr w') : TD w w' P B Q v ns (Ov X wr w') y T G vs :=
  have h' := h.below hb
  ⟨h.s.over hb, h'.r, fun k hk => ⟨.inl (h.p k hk).1, (h.p k hk).2⟩, h'.b, .inl h.g⟩
theorem TD.up (h : TD w wr P B Q v ns X y T G vs) (hT : T ≤ T') : TD w wr P B Q v ns X y T' G vs := ⟨h.s.up hT, h.r, h.p, h.b, h.g⟩
theorem TD.app {x : List UInt8} (h : TD w wr P B Q v ns X y T G vs) (hr : w'.ownsRow w.heap.size 9 1 v' (ns.length + 1) (ns.map Sn ++ [Sn x])) (hg : wr.grownBy w' v.ownBlock) (ho : v'.ownBlock = v.ownBlock ∨ v'.ownBlock = some wr.heap.size) : TD w w' P B Q v' (ns ++ [x]) (Ov X wr w') y T G vs where
  s := h.s.turn (F := fun b => v.ownBlock = some b) ⟨hg.os, hg.tape, hg.output, hg.size, fun k hk hn => hg.block k hk fun e => hn e.symm⟩ fun b hb => ⟨(h.p b hb).1, (own_ge h.r b hb).1⟩
  r := by rw [List.length_append, List.map_append]; exact hr
  p := fun k hk => by
    rcases ho with e | e
    · rw [e] at hk; exact ⟨.inl (h.p k hk).1, (h.p k hk).2⟩
    · have hl := (own_ge hr k hk).2
      rw [e] at hk
      injection hk with hk
      subst hk
      exact ⟨.inr ⟨Nat.le_refl _, hl⟩, fun e => by have := h.b.lt; omega⟩
  b := h.b.same (hg.block G h.b.lt fun e => (h.p G e.symm).2 rfl) (Nat.lt_of_lt_of_le h.b.lt hg.size)
  g := .inl h.g
end
/-- What Readdir tells of a descriptor that stands at its j-th name. -/
theorem rd_none {y : Sy} {fd di : Int} {NL : List (List UInt8)} {j : Nat} (hg : getV y.T fd = (⟨di, 0, 0, true, NL, (j : Int)⟩, 0)) (hj : NL[j]? = none) : doReaddir y ⟨19, fd, 0, 0, 0, e0, e0⟩ = (wrong 0, y) := by
  rw [readdir_at (c := ⟨19, fd, 0, 0, 0, e0, e0⟩) hg rfl]
  dsimp only
  rw [Int.toNat_natCast, hj]
theorem rd_some {y : Sy} {fd di : Int} {NL : List (List UInt8)} {j : Nat} {s : List UInt8} (hg : getV y.T fd = (⟨di, 0, 0, true, NL, (j : Int)⟩, 0)) (hj : NL[j]? = some s) :
    ∃ y', doReaddir y ⟨19, fd, 0, 0, 0, e0, e0⟩ = (⟨0, 1, ⟨s.toArray⟩, (0, 0, 0)⟩, y') ∧ getV y'.T fd = (⟨di, 0, 0, true, NL, ((j + 1 : Nat) : Int)⟩, 0) := by
  refine ⟨⟨y.S, setT y.T fd ⟨di, 0, 0, true, NL, (j : Int) + 1⟩⟩, ?_, by rw [Int.natCast_add]; exact getV_set hg⟩
  rw [readdir_at (c := ⟨19, fd, 0, 0, 0, e0, e0⟩) hg rfl]
  dsimp only
  rw [Int.toNat_natCast, hj]
set_option maxRecDepth 100000 in
set_option maxHeartbeats 8000000 in
theorem walk (A : Option Addr) (n c : Nat) (F : Nat → Cal) (a : ByteArray) (A2 : Option Addr) (m c2 : Nat) (F2 : Nat → Cal) (w : World) (k1 : n ≤ c ∧ c ≤ maxLen) (hF : Cls w w.heap.size A n F) (wa : a.size ≤ maxLen) (k2 : m ≤ c2 ∧ c2 ≤ maxLen) (hF2 : Cls w w.heap.size A2 m F2) :
    Calls Tryz.prog 6 #[.slice A n c, .string a, .slice A2 m c2] w (AwakeE w) := by
  have hnm : n ≤ 9223372036854775807 := Nat.le_trans k1.1 k1.2
  have HA := Lib.hid hF
  have HAW := Lib.hid (awake_any w)
  unfold AwakeE at HAW
  have HEND := Lib.hid (fun W (h : Below w.heap.size w W) => (show AwakeE w (.returned (.bool true)) W from ⟨rfl, h⟩))
  have HN := Lib.hid (fun w1 (hb : Below w.heap.size w w1) => cb.x_new (w0 := w) (w := w1) 65536 (by decide) hb)
  clear k1 hF
  have hmm : m ≤ 9223372036854775807 := Nat.le_trans k2.1 k2.2
  have HA2 := Lib.hid hF2
  clear k2 hF2
  go_enter Tryz.func6, Tryz.ntmps6
  go_wp2_with fail
  refine HAW.out.mono ?_
  rintro e w1 ⟨rfl, hb1⟩
  have HN1 := Lib.hid (HN.out w1 hb1)
  clear hb1 HN HAW
  go_wp2_with fail
  refine HN1.out.mono ?_
  rintro e w2 ⟨B, rfl, h2, -, -⟩
  have HT2 := Lib.hid (t_new h2)
  clear h2 HN1
  go_wp2_with fail
  refine HT2.out.mono ?_
  rintro e w3 ⟨P, Q, rfl, h3, -⟩
  have H3 := Lib.hid (h3.weaken (Y := fun _ => False) fun _ h => h.elim)
  have HD3 := Lib.hid (hd_fresh 65536)
  have HL3 := Lib.hid (show Lim (⟨fresh, em⟩ : Sy).T from lim_em)
  clear h3 HT2
  have ha' : a.size ≤ 9223372036854775807 := wa
  by_cases hbig : (a.size : Int) > 4096
  · have HB := Lib.hid H3.out.bel
    go_wp2_with fail
    go_ret
    exact HEND.out _ HB.out
  have HF3 := Lib.hid few_fresh
  go_wp2_with fail
  go_loopg [8] 100 (fun g s8 wr => ∃ (k : Nat) (y : Sy), g + k = 100 ∧ k ≤ n ∧ s8 = .int .i64 k ∧ Hid (SyX w wr P B Q (fun _ => False) y 65536 (3 * k)) ∧ Hid (Hd 65536 y) ∧ Hid (Lim y.T) ∧ Hid (Few y.S k))
  case atStart => exact ⟨0, _, by omega, by omega, rfl, H3, HD3, HL3, HF3⟩
  case round =>
    clear H3 HD3 HL3 HF3
    obtain ⟨k, y, hgk, hk, rfl, HS, HD, HL, HFW⟩ := hrel
    by_cases hgo : k < n ∧ k < 100
    · obtain ⟨hkn, hk2⟩ := hgo
      obtain ⟨b, off, hA0, hbl, f0, f1, f2, f3, f4, f5, f6, sa, sb⟩ := HA.out k hkn
      subst hA0
      have HFC := Lib.hid (fun W (hb : Below w.heap.size w W) => And.intro ((hb.cell (p := ⟨b, off + k * 7, none⟩) hbl).trans f0) (And.intro ((hb.cell (p := ⟨b, off + k * 7 + 1, none⟩) hbl).trans f1) (And.intro ((hb.cell (p := ⟨b, off + k * 7 + 2, none⟩) hbl).trans f2) (And.intro ((hb.cell (p := ⟨b, off + k * 7 + 3, none⟩) hbl).trans f3) (And.intro ((hb.cell (p := ⟨b, off + k * 7 + 4, none⟩) hbl).trans f4) (And.intro ((hb.cell (p := ⟨b, off + k * 7 + 5, none⟩) hbl).trans f5) ((hb.cell (p := ⟨b, off + k * 7 + 6, none⟩) hbl).trans f6)))))))
      have HLG := Lib.hid (fun W => large_any (F k) W sa sb)
      clear f0 f1 f2 f3 f4 f5 f6 sa sb
      obtain ⟨x, hx⟩ : ∃ x, F k = x := ⟨_, rfl⟩
      rw [hx] at HFC HLG
      clear hx
      obtain ⟨xo, xf, xl, xn, xx, xa, xb⟩ := x
      unfold CVal at HLG
      dsimp only at HFC HLG
      obtain ⟨lg, hlg⟩ : ∃ lg, largeB ⟨xo, xf, xl, xn, xx, xa, xb⟩ = lg := ⟨_, rfl⟩
      rw [hlg] at HLG
      obtain ⟨f0, f1, f2, f3, f4, f5, f6⟩ := HFC.out _ HS.out.bel
      have hblr : b < wr.heap.size := Nat.lt_of_lt_of_le hbl HS.out.bel.size
      go_wp2_with fail
      refine (HLG.out _).mono ?_
      rintro e w4 ⟨rfl, hb4⟩
      have H4 := Lib.hid (HS.out.below hb4)
      clear hb4 HLG hblr f0 f1 f2 f3 f4 f5 f6
      cases lg with
      | true =>
        have HB4 := Lib.hid H4.out.bel
        go_wp2_with fail
        try rw [Exit.noGoto_ret]
        go_ret
        exact HEND.out _ HB4.out
      | false =>
        obtain ⟨ha4, hb4⟩ := large_no hlg
        have HDO := Lib.hid (Do_any H4.out (by omega) HD.out HL.out ⟨xo, xf, xl, xn, xx, xa, xb⟩ ha4 hb4)
        unfold ME CV at HDO
        dsimp only at HDO
        have hblr : b < w4.heap.size := Nat.lt_of_lt_of_le hbl H4.out.bel.size
        clear hlg
        obtain ⟨f0, f1, f2, f3, f4, f5, f6⟩ := HFC.out _ H4.out.bel
        go_wp2_with fail
        refine HDO.out.mono ?_
        rintro e w7 ⟨r, y', rfl, hd, s1, -⟩
        have HD7 := Lib.hid (does_held HD.out hd)
        have HL7 := Lib.hid (does_lim HD.out HL.out hd)
        have HF7 := Lib.hid (does_few HFW.out hd)
        have H7 := Lib.hid s1
        clear hd HDO hblr f0 f1 f2 f3 f4 f5 f6 s1
        go_wp2_with fail
        go_roundg (100 - (k + 1))
        case measure => omega
        case rel => exact ⟨k + 1, y', by omega, by omega, by go_num, Lib.hid (H7.out.up (by omega)), HD7, HL7, HF7⟩
    · have hk100 : k ≤ 100 := by omega
      have hways : (k < n ∧ ¬ ((k : Int) < 100)) ∨ ¬ ((k : Int) < (n : Int)) := by omega
      rcases hways with ⟨hw1, hw2⟩ | hw2
      all_goals
        clear hgo HA
        obtain ⟨X0, hX0⟩ : ∃ X0 : Nat → Prop, X0 = fun _ => False := ⟨_, rfl⟩
        rw [← hX0] at HS
        clear hX0
        have HOD := Lib.hid (od_tells HD.out ⟨18, 0, 0, 0, 0, a, ⟨#[]⟩⟩ ⟨9, 0, 0, 0, 0, a, ⟨#[]⟩⟩ rfl)
        have HNF := Lib.hid (fun i => names_few HFW.out i)
        have HC1 := Lib.hid (Do_gen HS.out (by omega) HD.out HL.out ⟨18, 0, 0, 0, 0, a, ⟨#[]⟩⟩ (by intro h; dsimp only at h; omega))
        unfold ME CV at HC1
        dsimp only at HC1
        go_wp2_with fail
        refine HC1.out.mono ?_
        rintro e u1 ⟨r1, y1, rfl, hd1, s1, s2⟩
        have HD1_ := Lib.hid (does_held HD.out hd1)
        have HL1_ := Lib.hid (does_lim HD.out HL.out hd1)
        clear HC1
        have hs := is_18 hd1 rfl
        rw [← hs] at HOD
        dsimp only at HOD
        clear hs hd1
        obtain ⟨e1, n1, b1, k1, zn1, l1⟩ := r1
        unfold RVr RV
        dsimp only
        obtain ⟨z1, hz1⟩ : ∃ z : Int, (zn1 : Int) = z := ⟨_, rfl⟩
        rw [hz1]
        have HZ1 := Lib.hid hz1
        clear hz1
        go_upto_region 13 with fail
        obtain ⟨v1, G1, hv1, hG1, t1, t2, t3, t4⟩ := box_on s1 (.int .i64 e1) (.int .i64 n1) (.string b1) (.int .i64 k1) (.int .i64 z1) (.int .i64 l1)
        obtain ⟨X1, hX1⟩ : ∃ X' : Nat → Prop, X' = Ov X0 u1 v1 := ⟨_, rfl⟩
        rw [← hX1] at t1 t3 t4
        have H1_ := Lib.hid t1
        have HP1 := Lib.hid t3
        have HB1 := Lib.hid t2
        clear s1 s2 t1 t2 t3 t4 hX1
        rw [hv1, hG1]
        clear hv1 hG1
        have HC2 := Lib.hid (Do_gen H1_.out (by omega) HD1_.out HL1_.out ⟨9, 0, 0, 0, 0, a, ⟨#[]⟩⟩ (by intro h; dsimp only at h; omega))
        unfold ME CV at HC2
        dsimp only at HC2
        go_wp2_with fail
        refine HC2.out.mono ?_
        rintro e u2 ⟨r2, y2, rfl, hd2, s1, s2⟩
        have HD2_ := Lib.hid (does_held HD1_.out hd2)
        have HL2_ := Lib.hid (does_lim HD1_.out HL1_.out hd2)
        clear HC2
        have hs := is_9 hd2 rfl
        obtain ⟨hs1, hs2⟩ := hs
        subst hs2
        rw [← hs1] at HOD
        have HST := Lib.hid hs1
        clear hs1 hd2
        obtain ⟨e2, n2, b2, k2, zn2, l2⟩ := r2
        unfold RVr RV
        dsimp only
        obtain ⟨z2, hz2⟩ : ∃ z : Int, (zn2 : Int) = z := ⟨_, rfl⟩
        rw [hz2]
        have HZ2 := Lib.hid hz2
        clear hz2
        go_upto_region 14 with fail
        obtain ⟨v2, G2, hv2, hG2, t1, t2, t3, t4⟩ := box_on s1 (.int .i64 e2) (.int .i64 n2) (.string b2) (.int .i64 k2) (.int .i64 z2) (.int .i64 l2)
        obtain ⟨X2, hX2⟩ : ∃ X' : Nat → Prop, X' = Ov X1 u2 v2 := ⟨_, rfl⟩
        rw [← hX2] at t1 t3 t4
        have H2_ := Lib.hid t1
        have HP2 := Lib.hid t3
        have HB2 := Lib.hid t2
        have HB1 := Lib.hid (HB1.out.same ((t4 G1 HP1.out).2.trans (s2 G1 HP1.out)) (t1.lt (t4 G1 HP1.out).1))
        have HP1 := Lib.hid (t4 G1 HP1.out).1
        clear s1 s2 t1 t2 t3 t4 hX2
        rw [hv2, hG2]
        clear hv2 hG2
        obtain ⟨x0, x1, x2, x3, x4, x5⟩ := HB1.out.six
        obtain ⟨p0, p1, p2, p3, p4, p5⟩ := HB2.out.six
        dsimp only at HOD
        by_cases he : e1 = 0
        case neg =>
          have hB := H2_.out.bel
          have qe : (e1 != 0) = true := by simpa using he
          obtain ⟨hy, h⟩ := HOD.out.1 he
          have h3 := HST.out
          rw [hy] at h3
          rw [← h3] at h
          dsimp only at h
          clear h3 hy HOD HST
          by_cases q1 : e1 = 24
          · subst q1
            go_wp2_with fail
            try rw [Exit.noGoto_ret]
            go_ret
            exact HEND.out _ hB
          · have q1' : (e1 == 24) = false := by simpa using q1
            by_cases q2 : e2 = 0
            · have q2' : (e2 != 0) = false := by simpa using q2
              have q3 : (k2 != 2) = true := by
                rcases h with h | h | h
                · exact absurd h q1
                · exact absurd q2 h
                · simpa using h
              go_wp2_with fail
              try rw [Exit.noGoto_ret]
              go_ret
              exact HEND.out _ hB
            · have q2' : (e2 != 0) = true := by simpa using q2
              go_wp2_with fail
              try rw [Exit.noGoto_ret]
              go_ret
              exact HEND.out _ hB
        subst he
        obtain ⟨di, hn1, hgv, he2, hsz⟩ := HOD.out.2 rfl
        try dsimp only at hn1 he2 hsz
        clear HOD HST
        obtain ⟨NL, hNL⟩ : ∃ NL, namesOf y.S di = NL := ⟨_, rfl⟩
        have HLN := Lib.hid (HNF.out di)
        have HRI := Lib.hid (show ∀ k a b, (namesOf y.S di)[k]? = some a → (namesOf y.S di)[k + 1]? = some b → dn.lessB ⟨a.toArray⟩ ⟨b.toArray⟩ = true from fun k a b => names_rise HD.out.good.1 di)
        rw [hNL] at hgv hsz HLN HRI
        obtain ⟨fd, hfd⟩ : ∃ f, (ds.lowV y.T).1 = f := ⟨_, rfl⟩
        rw [hfd] at hgv hn1
        subst hn1
        subst hsz
        subst he2
        have HTD := Lib.hid (show TD w (v2.alloc (.cells #[] 9)) P B Q (.slice (some ⟨v2.heap.size, 0, none⟩) 0 0) [] (Ov X2 v2 (v2.alloc (.cells #[] 9))) y2 (3 * k + 6 + 6 * 0) G2 [.int .i64 0, .int .i64 n2, .string b2, .int .i64 k2, .int .i64 z2, .int .i64 l2] from
          have hb := bel_alloc v2 (.cells #[] 9)
          ⟨(H2_.out.over hb).up (by omega), lit_names H2_.out.bel.size, fun k hk => by
            injection hk with hk
            subst hk
            exact ⟨.inr ⟨Nat.le_refl _, by rw [World.size_alloc]; exact Nat.lt_succ_self _⟩, Nat.ne_of_gt HB2.out.lt⟩, HB2.out.below hb, .inl HP2.out⟩)
        have HGV := Lib.hid hgv
        have HLN2 := Lib.hid (show NL.length ≤ 100 from Nat.le_trans HLN.out hk100)
        go_upto_region 20 with fail
        clear hNL hgv HLN HNF HB1 HB2 HP1 HP2 H2_ H1_ HS HD HL HFW x0 x1 x2 x3 x4 x5 p0 p1 p2 p3 p4 p5 HD1_ HL1_
        go_loopg [12, 13] (NL.length + 1) (fun g s12 s13 wr => ∃ (j : Nat) (y3 : Sy) (v : Value) (X : Nat → Prop), g + j = NL.length + 1 ∧ j ≤ NL.length ∧ s13 = .int .i64 j ∧ v = s12 ∧ Hid (TD w wr P B Q v (NL.take j) X y3 (3 * k + 6 + 6 * j) G2 [.int .i64 0, .int .i64 n2, .string b2, .int .i64 k2, .int .i64 z2, .int .i64 l2]) ∧ Hid (Hd 65536 y3) ∧ Hid (Lim y3.T) ∧ Hid (getV y3.T n1 = (⟨di, 0, 0, true, NL, (j : Int)⟩, 0)))
        case atStart => exact ⟨0, y2, _, _, by omega, by omega, rfl, rfl, HTD, HD2_, HL2_, HGV⟩
        case round =>
          clear HTD HD2_ HL2_ HGV
          obtain ⟨j, y3, v, X, hgj, hjl, rfl, hv12, HT, HD, HL, HV⟩ := hrel
          subst hv12
          obtain ⟨A', c', hv, hc1, hc2, -⟩ := own_names HT.out.r
          have hlen : (NL.take j).length = j := by rw [List.length_take]; omega
          rw [hlen] at hv hc1
          subst hv
          have hj1 : j ≤ 100 := Nat.le_trans hjl HLN2.out
          have hj3 : (j : Int) ≤ 100 := by omega
          have hc3 : (c' : Int) ≤ 9223372036854775807 := by unfold maxLen at hc2; omega
          by_cases hgo : j < m ∧ j < 100
          · obtain ⟨hjm, hj2⟩ := hgo
            obtain ⟨b, off, hA0, hbl, f0, f1, f2, f3, f4, f5, f6, sa, sb⟩ := HA2.out j hjm
            subst hA0
            have HFC := Lib.hid (fun W (hb : Below w.heap.size w W) => And.intro ((hb.cell (p := ⟨b, off + j * 7, none⟩) hbl).trans f0) (And.intro ((hb.cell (p := ⟨b, off + j * 7 + 1, none⟩) hbl).trans f1) (And.intro ((hb.cell (p := ⟨b, off + j * 7 + 2, none⟩) hbl).trans f2) (And.intro ((hb.cell (p := ⟨b, off + j * 7 + 3, none⟩) hbl).trans f3) (And.intro ((hb.cell (p := ⟨b, off + j * 7 + 4, none⟩) hbl).trans f4) (And.intro ((hb.cell (p := ⟨b, off + j * 7 + 5, none⟩) hbl).trans f5) ((hb.cell (p := ⟨b, off + j * 7 + 6, none⟩) hbl).trans f6)))))))
            have HLG := Lib.hid (fun W => large_any (F2 j) W sa sb)
            clear f0 f1 f2 f3 f4 f5 f6 sa sb
            obtain ⟨x, hx⟩ : ∃ x, F2 j = x := ⟨_, rfl⟩
            rw [hx] at HFC HLG
            clear hx
            obtain ⟨xo, xf, xl, xn, xx, xa, xb⟩ := x
            unfold CVal at HLG
            dsimp only at HFC HLG
            obtain ⟨lg, hlg⟩ : ∃ lg, largeB ⟨xo, xf, xl, xn, xx, xa, xb⟩ = lg := ⟨_, rfl⟩
            rw [hlg] at HLG
            obtain ⟨f0, f1, f2, f3, f4, f5, f6⟩ := HFC.out _ HT.out.s.bel
            have hblr : b < wr.heap.size := Nat.lt_of_lt_of_le hbl HT.out.s.bel.size
            go_wp2_with fail
            refine (HLG.out _).mono ?_
            rintro e w4 ⟨rfl, hb4⟩
            have H4 := Lib.hid (HT.out.below hb4)
            clear hb4 HLG hblr f0 f1 f2 f3 f4 f5 f6
            cases lg with
            | true =>
              have HB4 := Lib.hid H4.out.s.bel
              go_wp2_with fail
              try rw [Exit.noGoto_ret]
              go_ret
              exact HEND.out _ HB4.out
            | false =>
              obtain ⟨ha4, hb4⟩ := large_no hlg
              have hblr : b < w4.heap.size := Nat.lt_of_lt_of_le hbl H4.out.s.bel.size
              clear hlg
              obtain ⟨f0, f1, f2, f3, f4, f5, f6⟩ := HFC.out _ H4.out.s.bel
              by_cases hfd : xf = n1
              · have q1 : (xf == n1) = true := by simpa using hfd
                have q2 : (xf != n1) = false := by simpa using hfd
                clear hfd HT
                have HC := Lib.hid (Do_any H4.out.s (by omega) HD.out HL.out ⟨19, n1, 0, 0, 0, ⟨#[]⟩, ⟨#[]⟩⟩ (show (⟨#[]⟩ : ByteArray).size ≤ 4096 by decide) (show (⟨#[]⟩ : ByteArray).size ≤ 4096 by decide))
                unfold ME CV at HC
                dsimp only at HC
                go_wp2_with fail
                refine HC.out.mono ?_
                rintro e w8 ⟨r, y8, rfl, hd, s1, s2⟩
                have HD8 := Lib.hid (does_held HD.out hd)
                have HL8 := Lib.hid (does_lim HD.out HL.out hd)
                have H8 := Lib.hid (H4.out.call s1 s2)
                have hs := is_19 hd rfl
                clear hd HC s1 s2
                cases hN : NL[j]? with
                | none =>
                  have h2 := hs.trans (rd_none HV.out hN)
                  simp only [Prod.mk.injEq] at h2
                  obtain ⟨rfl, rfl⟩ := h2
                  unfold RVr RV wrong e0
                  dsimp only
                  go_upto_region 26 with fail
                  obtain ⟨w9, hw9⟩ : ∃ W, w8.alloc (.cells #[.int .i64 0, .int .i64 0, .string ⟨#[]⟩, .int .i64 0, .int .i64 0, .int .i64 0] 39) = W := ⟨_, rfl⟩
                  have hb9 : Below w8.heap.size w8 w9 := by rw [← hw9]; exact bel_alloc _ _
                  have HX9 := Lib.hid (show Rw w9 w8.heap.size [.int .i64 0, .int .i64 0, .string ⟨#[]⟩, .int .i64 0, .int .i64 0, .int .i64 0] by rw [← hw9]; exact Rw.new w8 [.int .i64 0, .int .i64 0, .string ⟨#[]⟩, .int .i64 0, .int .i64 0, .int .i64 0] 39)
                  have H9 := Lib.hid (H8.out.over hb9)
                  obtain ⟨g9, hg9⟩ : ∃ g, w8.heap.size = g := ⟨_, rfl⟩
                  rw [hg9] at HX9
                  obtain ⟨x0, x1, x2, x3, x4, x5⟩ := HX9.out.six
                  clear hb9 H8
                  have hjn : NL.length = j := by have := List.getElem?_eq_none_iff.1 hN; omega
                  have hz : z2 = (j : Int) := by rw [← HZ2.out, hjn]
                  obtain ⟨p0, p1, p2, p3, p4, p5⟩ := H9.out.b.six
                  rw [hz] at p4
                  have HC := Lib.hid (Do_any H9.out.s (by omega) HD8.out HL8.out ⟨19, n1, 0, 0, 0, ⟨#[]⟩, ⟨#[]⟩⟩ (show (⟨#[]⟩ : ByteArray).size ≤ 4096 by decide) (show (⟨#[]⟩ : ByteArray).size ≤ 4096 by decide))
                  unfold ME CV at HC
                  dsimp only at HC
                  clear hs HX9
                  go_wp2_with fail
                  refine HC.out.mono ?_
                  rintro e w10 ⟨r, y10, rfl, hd, s1, s2⟩
                  have h2 := (is_19 hd rfl).trans (rd_none HV.out hN)
                  simp only [Prod.mk.injEq] at h2
                  obtain ⟨rfl, rfl⟩ := h2
                  have HFE := Lib.hid s1.bel
                  unfold RVr RV wrong e0
                  dsimp only
                  have hq := eql39 0 0 ⟨#[]⟩ 0 0 0
                  unfold RVal at hq
                  have hgd := guard39
                  clear hd HC s1 s2 p0 p1 p2 p3 p4 p5 x0 x1 x2 x3 x4 x5
                  go_wp2_with fail
                  go_ret
                  exact HEND.out _ HFE.out
                | some s =>
                  obtain ⟨y9, h3, hgv9⟩ := rd_some HV.out hN
                  have h2 := hs.trans h3
                  simp only [Prod.mk.injEq] at h2
                  obtain ⟨rfl, rfl⟩ := h2
                  have HGV9 := Lib.hid hgv9
                  have hjn : j + 1 ≤ NL.length := by have := (List.getElem?_eq_some_iff.1 hN).1; omega
                  have HTK := Lib.hid (show NL.take (j + 1) = NL.take j ++ [s] by rw [List.take_add_one, hN]; rfl)
                  unfold RVr RV
                  dsimp only
                  clear hs h3 hgv9
                  go_upto_region 26 with fail
                  obtain ⟨w9, hw9⟩ : ∃ W, w8.alloc (.cells #[.int .i64 0, .int .i64 1, .string ⟨s.toArray⟩, .int .i64 0, .int .i64 0, .int .i64 0] 39) = W := ⟨_, rfl⟩
                  have hb9 : Below w8.heap.size w8 w9 := by rw [← hw9]; exact bel_alloc _ _
                  have HX9 := Lib.hid (show Rw w9 w8.heap.size [.int .i64 0, .int .i64 1, .string ⟨s.toArray⟩, .int .i64 0, .int .i64 0, .int .i64 0] by rw [← hw9]; exact Rw.new w8 [.int .i64 0, .int .i64 1, .string ⟨s.toArray⟩, .int .i64 0, .int .i64 0, .int .i64 0] 39)
                  have H9 := Lib.hid (H8.out.over hb9)
                  obtain ⟨g9, hg9⟩ : ∃ g, w8.heap.size = g := ⟨_, rfl⟩
                  rw [hg9] at HX9
                  obtain ⟨x0, x1, x2, x3, x4, x5⟩ := HX9.out.six
                  clear hb9 H8
                  have HOV := Lib.hid (fun ob => H9.out.over (bel_alloc w9 ob))
                  have HBS := Lib.hid (fun ob => (HOV.out ob).s.bel.size)
                  have HNS := Lib.hid hN
                  have HLE := Lib.hid hlen
                  try clear hw3
                  try clear hw4
                  try clear hgo
                  obtain ⟨i0, hi, hz0, hz1, hz2⟩ := info_parts9
                  have HEN := Lib.hid (show ∀ W v' Y T', T' ≤ 3 * k + 6 + 6 * (j + 1) → TD w W P B Q v' (NL.take j ++ [s]) Y y8 T' G2 [.int .i64 0, .int .i64 n2, .string b2, .int .i64 k2, .int .i64 z2, .int .i64 l2] → TD w W P B Q v' (NL.take (j + 1)) Y y8 (3 * k + 6 + 6 * (j + 1)) G2 [.int .i64 0, .int .i64 n2, .string b2, .int .i64 k2, .int .i64 z2, .int .i64 l2] from fun W v' Y T' hT h => by rw [HTK.out]; exact h.up hT)
                  obtain ⟨sb, hsb⟩ : ∃ b : ByteArray, (⟨s.toArray⟩ : ByteArray) = b := ⟨_, rfl⟩
                  rw [hsb] at x2 HX9
                  have HSB := Lib.hid hsb
                  by_cases hj0 : j = 0
                  · clear hN hlen hsb
                    subst hj0
                    go_upto_region 29 with fail
                    go_quiet (fail)
                    obtain ⟨wq, hwq⟩ : ∃ W, w9.drewN nq = W := ⟨_, rfl⟩
                    have hbq : Below w9.heap.size w9 wq := by rw [← hwq]; exact dn.below_drewN (Below.refl _ _) _
                    have HQ9 := Lib.hid (H9.out.below hbq)
                    obtain ⟨x0, x1, x2, x3, x4, x5⟩ := (HX9.out.below hbq).six
                    have HOV := Lib.hid (fun ob => HQ9.out.over (bel_alloc wq ob))
                    have HBS := Lib.hid (fun ob => (HOV.out ob).s.bel.size)
                    clear hbq
                    go_wp2_with (first | (at_builtin; go_must (refine wpList_append_own_at _ rfl (.tmp 144) (.tmp 147) 48 rfl w.heap.size 9 i0 _ 1 16 Tryz.underlying48 hi hz0 hz1 hz2 rfl (by decide) (.slice A' 0 c') (NL.take 0).length ((NL.take 0).map Sn) rfl (HOV.out _).r ⟨wq.heap.size, 0, none⟩ 1 1 [.string sb] rfl rfl (cell_one_new _ _ _) (by intro u hu; simp at hu; subst hu; rfl) (by have := HLE.out; unfold maxLen; omega) (by have := HLE.out; omega) (HBS.out _) ?_; intro v' w12 hown hgr _ ho; rw [← HSB.out] at hown; have HT12 := Lib.hid (HEN.out _ _ _ _ (by omega) ((HOV.out _).app hown hgr ho)); clear hown hgr ho)) | fail)
                    go_roundg (gk - 1)
                    case measure => omega
                    case rel => exact ⟨0 + 1, _, _, _, by omega, by omega, by go_num, rfl, HT12, HD8, HL8, HGV9⟩
                  · obtain ⟨i, hij⟩ : ∃ i, j - 1 = i := ⟨_, rfl⟩
                    have hji : j = i + 1 := by omega
                    obtain ⟨A2', c2', hv2, -, -, HNM⟩ := own_names H9.out.r
                    obtain ⟨x, hx⟩ : ∃ x, NL[i]? = some x := ⟨NL[i]'(by omega), List.getElem?_eq_getElem _⟩
                    obtain ⟨Gr, hGr, e1⟩ := HNM i x (by rw [List.getElem?_take, if_pos (by omega)]; exact hx)
                    obtain rfl : A' = some ⟨Gr, 0, none⟩ := by injection hv2 with h; rw [h]; exact hGr
                    have hls := HRI.out i x s hx (by rw [← hji]; exact hN)
                    have hsub : IntKind.i64.wrap ((j : Int) - 1) = (i : Int) := by rw [show (j : Int) - 1 = (i : Int) by omega]; exact IntWalk.i64_in _ (by omega)
                    have hgt : decide ((j : Int) > 0) = true := by simp; omega
                    have hgt2 : decide (0 < j) = true := by simp; omega
                    have hgt3 : 0 < j := by omega
                    have hgt4 : (0 : Int) < j := by omega
                    have hil : (i : Int) < j := by omega
                    obtain ⟨xb, hxb⟩ : ∃ b : ByteArray, (⟨x.toArray⟩ : ByteArray) = b := ⟨_, rfl⟩
                    have e2 : w9.cell? ⟨Gr, i, none⟩ = some (.string xb) := by rw [← hxb]; exact e1
                    have hls2 : Op.bytesLess xb.toList sb.toList = true := by rw [← hxb, ← hsb]; exact hls
                    clear hls hxb e1
                    clear hN hlen hsb hv2 hGr hx HNM hji hij hj0
                    go_upto_region 29 with fail
                    go_quiet (fail)
                    obtain ⟨wq, hwq⟩ : ∃ W, w9.drewN nq = W := ⟨_, rfl⟩
                    have hbq : Below w9.heap.size w9 wq := by rw [← hwq]; exact dn.below_drewN (Below.refl _ _) _
                    have HQ9 := Lib.hid (H9.out.below hbq)
                    obtain ⟨x0, x1, x2, x3, x4, x5⟩ := (HX9.out.below hbq).six
                    have HOV := Lib.hid (fun ob => HQ9.out.over (bel_alloc wq ob))
                    have HBS := Lib.hid (fun ob => (HOV.out ob).s.bel.size)
                    clear hbq
                    go_wp2_with (first | (at_builtin; go_must (refine wpList_append_own_at _ rfl (.tmp 144) (.tmp 147) 48 rfl w.heap.size 9 i0 _ 1 16 Tryz.underlying48 hi hz0 hz1 hz2 rfl (by decide) (.slice (some ⟨Gr, 0, none⟩) j c') (NL.take j).length ((NL.take j).map Sn) rfl (HOV.out _).r ⟨wq.heap.size, 0, none⟩ 1 1 [.string sb] rfl rfl (cell_one_new _ _ _) (by intro u hu; simp at hu; subst hu; rfl) (by have := HLE.out; unfold maxLen; omega) (by have := HLE.out; omega) (HBS.out _) ?_; intro v' w12 hown hgr _ ho; rw [← HSB.out] at hown; have HT12 := Lib.hid (HEN.out _ _ _ _ (by omega) ((HOV.out _).app hown hgr ho)); clear hown hgr ho)) | fail)
                    go_roundg (gk - 1)
                    case measure => omega
                    case rel => exact ⟨j + 1, _, _, _, by omega, by omega, by go_num, rfl, HT12, HD8, HL8, HGV9⟩
              · have q1 : (xf == n1) = false := by simpa using hfd
                have q2 : (xf != n1) = true := by simpa using hfd
                have HDO := Lib.hid (Do_any H4.out.s (by omega) HD.out HL.out ⟨xo, xf, xl, xn, xx, xa, xb⟩ ha4 hb4)
                unfold ME CV at HDO
                dsimp only at HDO
                go_wp2_with fail
                refine HDO.out.mono ?_
                rintro e w7 ⟨r, y7, rfl, hd, s1, s2⟩
                have HD7 := Lib.hid (does_held HD.out hd)
                have HL7 := Lib.hid (does_lim HD.out HL.out hd)
                have HV7 := Lib.hid (does_other HV.out hfd hd)
                have H7 := Lib.hid (H4.out.call s1 s2)
                clear hd HDO hblr f0 f1 f2 f3 f4 f5 f6 s1 s2 H4 HT HD HL HV
                have HC := Lib.hid (Do_any H7.out.s (by omega) HD7.out HL7.out ⟨19, n1, 0, 0, 0, ⟨#[]⟩, ⟨#[]⟩⟩ (show (⟨#[]⟩ : ByteArray).size ≤ 4096 by decide) (show (⟨#[]⟩ : ByteArray).size ≤ 4096 by decide))
                unfold ME CV at HC
                dsimp only at HC
                go_wp2_with fail
                refine HC.out.mono ?_
                rintro e w8 ⟨r, y8, rfl, hd, s1, s2⟩
                have HD8 := Lib.hid (does_held HD7.out hd)
                have HL8 := Lib.hid (does_lim HD7.out HL7.out hd)
                have H8 := Lib.hid (H7.out.call s1 s2)
                have hs := is_19 hd rfl
                clear hd HC s1 s2
                cases hN : NL[j]? with
                | none =>
                  have h2 := hs.trans (rd_none HV7.out hN)
                  simp only [Prod.mk.injEq] at h2
                  obtain ⟨rfl, rfl⟩ := h2
                  unfold RVr RV wrong e0
                  dsimp only
                  go_upto_region 26 with fail
                  obtain ⟨w9, hw9⟩ : ∃ W, w8.alloc (.cells #[.int .i64 0, .int .i64 0, .string ⟨#[]⟩, .int .i64 0, .int .i64 0, .int .i64 0] 39) = W := ⟨_, rfl⟩
                  have hb9 : Below w8.heap.size w8 w9 := by rw [← hw9]; exact bel_alloc _ _
                  have HX9 := Lib.hid (show Rw w9 w8.heap.size [.int .i64 0, .int .i64 0, .string ⟨#[]⟩, .int .i64 0, .int .i64 0, .int .i64 0] by rw [← hw9]; exact Rw.new w8 [.int .i64 0, .int .i64 0, .string ⟨#[]⟩, .int .i64 0, .int .i64 0, .int .i64 0] 39)
                  have H9 := Lib.hid (H8.out.over hb9)
                  obtain ⟨g9, hg9⟩ : ∃ g, w8.heap.size = g := ⟨_, rfl⟩
                  rw [hg9] at HX9
                  obtain ⟨x0, x1, x2, x3, x4, x5⟩ := HX9.out.six
                  clear hb9 H8
                  have hjn : NL.length = j := by have := List.getElem?_eq_none_iff.1 hN; omega
                  have hz : z2 = (j : Int) := by rw [← HZ2.out, hjn]
                  obtain ⟨p0, p1, p2, p3, p4, p5⟩ := H9.out.b.six
                  rw [hz] at p4
                  have HC := Lib.hid (Do_any H9.out.s (by omega) HD8.out HL8.out ⟨19, n1, 0, 0, 0, ⟨#[]⟩, ⟨#[]⟩⟩ (show (⟨#[]⟩ : ByteArray).size ≤ 4096 by decide) (show (⟨#[]⟩ : ByteArray).size ≤ 4096 by decide))
                  unfold ME CV at HC
                  dsimp only at HC
                  clear hs HX9
                  go_wp2_with fail
                  refine HC.out.mono ?_
                  rintro e w10 ⟨r, y10, rfl, hd, s1, s2⟩
                  have h2 := (is_19 hd rfl).trans (rd_none HV7.out hN)
                  simp only [Prod.mk.injEq] at h2
                  obtain ⟨rfl, rfl⟩ := h2
                  have HFE := Lib.hid s1.bel
                  unfold RVr RV wrong e0
                  dsimp only
                  have hq := eql39 0 0 ⟨#[]⟩ 0 0 0
                  unfold RVal at hq
                  have hgd := guard39
                  clear hd HC s1 s2 p0 p1 p2 p3 p4 p5 x0 x1 x2 x3 x4 x5
                  go_wp2_with fail
                  go_ret
                  exact HEND.out _ HFE.out
                | some s =>
                  obtain ⟨y9, h3, hgv9⟩ := rd_some HV7.out hN
                  have h2 := hs.trans h3
                  simp only [Prod.mk.injEq] at h2
                  obtain ⟨rfl, rfl⟩ := h2
                  have HGV9 := Lib.hid hgv9
                  have hjn : j + 1 ≤ NL.length := by have := (List.getElem?_eq_some_iff.1 hN).1; omega
                  have HTK := Lib.hid (show NL.take (j + 1) = NL.take j ++ [s] by rw [List.take_add_one, hN]; rfl)
                  unfold RVr RV
                  dsimp only
                  clear hs h3 hgv9
                  go_upto_region 26 with fail
                  obtain ⟨w9, hw9⟩ : ∃ W, w8.alloc (.cells #[.int .i64 0, .int .i64 1, .string ⟨s.toArray⟩, .int .i64 0, .int .i64 0, .int .i64 0] 39) = W := ⟨_, rfl⟩
                  have hb9 : Below w8.heap.size w8 w9 := by rw [← hw9]; exact bel_alloc _ _
                  have HX9 := Lib.hid (show Rw w9 w8.heap.size [.int .i64 0, .int .i64 1, .string ⟨s.toArray⟩, .int .i64 0, .int .i64 0, .int .i64 0] by rw [← hw9]; exact Rw.new w8 [.int .i64 0, .int .i64 1, .string ⟨s.toArray⟩, .int .i64 0, .int .i64 0, .int .i64 0] 39)
                  have H9 := Lib.hid (H8.out.over hb9)
                  obtain ⟨g9, hg9⟩ : ∃ g, w8.heap.size = g := ⟨_, rfl⟩
                  rw [hg9] at HX9
                  obtain ⟨x0, x1, x2, x3, x4, x5⟩ := HX9.out.six
                  clear hb9 H8
                  have HOV := Lib.hid (fun ob => H9.out.over (bel_alloc w9 ob))
                  have HBS := Lib.hid (fun ob => (HOV.out ob).s.bel.size)
                  have HNS := Lib.hid hN
                  have HLE := Lib.hid hlen
                  try clear hw3
                  try clear hw4
                  try clear hgo
                  obtain ⟨i0, hi, hz0, hz1, hz2⟩ := info_parts9
                  have HEN := Lib.hid (show ∀ W v' Y T', T' ≤ 3 * k + 6 + 6 * (j + 1) → TD w W P B Q v' (NL.take j ++ [s]) Y y8 T' G2 [.int .i64 0, .int .i64 n2, .string b2, .int .i64 k2, .int .i64 z2, .int .i64 l2] → TD w W P B Q v' (NL.take (j + 1)) Y y8 (3 * k + 6 + 6 * (j + 1)) G2 [.int .i64 0, .int .i64 n2, .string b2, .int .i64 k2, .int .i64 z2, .int .i64 l2] from fun W v' Y T' hT h => by rw [HTK.out]; exact h.up hT)
                  obtain ⟨sb, hsb⟩ : ∃ b : ByteArray, (⟨s.toArray⟩ : ByteArray) = b := ⟨_, rfl⟩
                  rw [hsb] at x2 HX9
                  have HSB := Lib.hid hsb
                  by_cases hj0 : j = 0
                  · clear hN hlen hsb
                    subst hj0
                    go_upto_region 29 with fail
                    go_quiet (fail)
                    obtain ⟨wq, hwq⟩ : ∃ W, w9.drewN nq = W := ⟨_, rfl⟩
                    have hbq : Below w9.heap.size w9 wq := by rw [← hwq]; exact dn.below_drewN (Below.refl _ _) _
                    have HQ9 := Lib.hid (H9.out.below hbq)
                    obtain ⟨x0, x1, x2, x3, x4, x5⟩ := (HX9.out.below hbq).six
                    have HOV := Lib.hid (fun ob => HQ9.out.over (bel_alloc wq ob))
                    have HBS := Lib.hid (fun ob => (HOV.out ob).s.bel.size)
                    clear hbq
                    go_wp2_with (first | (at_builtin; go_must (refine wpList_append_own_at _ rfl (.tmp 144) (.tmp 147) 48 rfl w.heap.size 9 i0 _ 1 16 Tryz.underlying48 hi hz0 hz1 hz2 rfl (by decide) (.slice A' 0 c') (NL.take 0).length ((NL.take 0).map Sn) rfl (HOV.out _).r ⟨wq.heap.size, 0, none⟩ 1 1 [.string sb] rfl rfl (cell_one_new _ _ _) (by intro u hu; simp at hu; subst hu; rfl) (by have := HLE.out; unfold maxLen; omega) (by have := HLE.out; omega) (HBS.out _) ?_; intro v' w12 hown hgr _ ho; rw [← HSB.out] at hown; have HT12 := Lib.hid (HEN.out _ _ _ _ (by omega) ((HOV.out _).app hown hgr ho)); clear hown hgr ho)) | fail)
                    go_roundg (gk - 1)
                    case measure => omega
                    case rel => exact ⟨0 + 1, _, _, _, by omega, by omega, by go_num, rfl, HT12, HD8, HL8, HGV9⟩
                  · obtain ⟨i, hij⟩ : ∃ i, j - 1 = i := ⟨_, rfl⟩
                    have hji : j = i + 1 := by omega
                    obtain ⟨A2', c2', hv2, -, -, HNM⟩ := own_names H9.out.r
                    obtain ⟨x, hx⟩ : ∃ x, NL[i]? = some x := ⟨NL[i]'(by omega), List.getElem?_eq_getElem _⟩
                    obtain ⟨Gr, hGr, e1⟩ := HNM i x (by rw [List.getElem?_take, if_pos (by omega)]; exact hx)
                    obtain rfl : A' = some ⟨Gr, 0, none⟩ := by injection hv2 with h; rw [h]; exact hGr
                    have hls := HRI.out i x s hx (by rw [← hji]; exact hN)
                    have hsub : IntKind.i64.wrap ((j : Int) - 1) = (i : Int) := by rw [show (j : Int) - 1 = (i : Int) by omega]; exact IntWalk.i64_in _ (by omega)
                    have hgt : decide ((j : Int) > 0) = true := by simp; omega
                    have hgt2 : decide (0 < j) = true := by simp; omega
                    have hgt3 : 0 < j := by omega
                    have hgt4 : (0 : Int) < j := by omega
                    have hil : (i : Int) < j := by omega
                    obtain ⟨xb, hxb⟩ : ∃ b : ByteArray, (⟨x.toArray⟩ : ByteArray) = b := ⟨_, rfl⟩
                    have e2 : w9.cell? ⟨Gr, i, none⟩ = some (.string xb) := by rw [← hxb]; exact e1
                    have hls2 : Op.bytesLess xb.toList sb.toList = true := by rw [← hxb, ← hsb]; exact hls
                    clear hls hxb e1
                    clear hN hlen hsb hv2 hGr hx HNM hji hij hj0
                    go_upto_region 29 with fail
                    go_quiet (fail)
                    obtain ⟨wq, hwq⟩ : ∃ W, w9.drewN nq = W := ⟨_, rfl⟩
                    have hbq : Below w9.heap.size w9 wq := by rw [← hwq]; exact dn.below_drewN (Below.refl _ _) _
                    have HQ9 := Lib.hid (H9.out.below hbq)
                    obtain ⟨x0, x1, x2, x3, x4, x5⟩ := (HX9.out.below hbq).six
                    have HOV := Lib.hid (fun ob => HQ9.out.over (bel_alloc wq ob))
                    have HBS := Lib.hid (fun ob => (HOV.out ob).s.bel.size)
                    clear hbq
                    go_wp2_with (first | (at_builtin; go_must (refine wpList_append_own_at _ rfl (.tmp 144) (.tmp 147) 48 rfl w.heap.size 9 i0 _ 1 16 Tryz.underlying48 hi hz0 hz1 hz2 rfl (by decide) (.slice (some ⟨Gr, 0, none⟩) j c') (NL.take j).length ((NL.take j).map Sn) rfl (HOV.out _).r ⟨wq.heap.size, 0, none⟩ 1 1 [.string sb] rfl rfl (cell_one_new _ _ _) (by intro u hu; simp at hu; subst hu; rfl) (by have := HLE.out; unfold maxLen; omega) (by have := HLE.out; omega) (HBS.out _) ?_; intro v' w12 hown hgr _ ho; rw [← HSB.out] at hown; have HT12 := Lib.hid (HEN.out _ _ _ _ (by omega) ((HOV.out _).app hown hgr ho)); clear hown hgr ho)) | fail)
                    go_roundg (gk - 1)
                    case measure => omega
                    case rel => exact ⟨j + 1, _, _, _, by omega, by omega, by go_num, rfl, HT12, HD8, HL8, HGV9⟩
          · have hways : (j < m ∧ ¬ ((j : Int) < 100)) ∨ ¬ ((j : Int) < (m : Int)) := by omega
            rcases hways with ⟨hw3, hw4⟩ | hw4
            all_goals
              have HC := Lib.hid (Do_any HT.out.s (by omega) HD.out HL.out ⟨19, n1, 0, 0, 0, ⟨#[]⟩, ⟨#[]⟩⟩ (show (⟨#[]⟩ : ByteArray).size ≤ 4096 by decide) (show (⟨#[]⟩ : ByteArray).size ≤ 4096 by decide))
              unfold ME CV at HC
              dsimp only at HC
              go_wp2_with fail
              refine HC.out.mono ?_
              rintro e w8 ⟨r, y8, rfl, hd, s1, s2⟩
              have HD8 := Lib.hid (does_held HD.out hd)
              have HL8 := Lib.hid (does_lim HD.out HL.out hd)
              have H8 := Lib.hid (HT.out.call s1 s2)
              have hs := is_19 hd rfl
              clear hd HC s1 s2
              cases hN : NL[j]? with
              | none =>
                have h2 := hs.trans (rd_none HV.out hN)
                simp only [Prod.mk.injEq] at h2
                obtain ⟨rfl, rfl⟩ := h2
                unfold RVr RV wrong e0
                dsimp only
                go_upto_region 26 with fail
                obtain ⟨w9, hw9⟩ : ∃ W, w8.alloc (.cells #[.int .i64 0, .int .i64 0, .string ⟨#[]⟩, .int .i64 0, .int .i64 0, .int .i64 0] 39) = W := ⟨_, rfl⟩
                have hb9 : Below w8.heap.size w8 w9 := by rw [← hw9]; exact bel_alloc _ _
                have HX9 := Lib.hid (show Rw w9 w8.heap.size [.int .i64 0, .int .i64 0, .string ⟨#[]⟩, .int .i64 0, .int .i64 0, .int .i64 0] by rw [← hw9]; exact Rw.new w8 [.int .i64 0, .int .i64 0, .string ⟨#[]⟩, .int .i64 0, .int .i64 0, .int .i64 0] 39)
                have H9 := Lib.hid (H8.out.over hb9)
                obtain ⟨g9, hg9⟩ : ∃ g, w8.heap.size = g := ⟨_, rfl⟩
                rw [hg9] at HX9
                obtain ⟨x0, x1, x2, x3, x4, x5⟩ := HX9.out.six
                clear hb9 H8
                have hjn : NL.length = j := by have := List.getElem?_eq_none_iff.1 hN; omega
                have hz : z2 = (j : Int) := by rw [← HZ2.out, hjn]
                obtain ⟨p0, p1, p2, p3, p4, p5⟩ := H9.out.b.six
                rw [hz] at p4
                have HC := Lib.hid (Do_any H9.out.s (by omega) HD8.out HL8.out ⟨19, n1, 0, 0, 0, ⟨#[]⟩, ⟨#[]⟩⟩ (show (⟨#[]⟩ : ByteArray).size ≤ 4096 by decide) (show (⟨#[]⟩ : ByteArray).size ≤ 4096 by decide))
                unfold ME CV at HC
                dsimp only at HC
                clear hs HX9
                go_wp2_with fail
                refine HC.out.mono ?_
                rintro e w10 ⟨r, y10, rfl, hd, s1, s2⟩
                have h2 := (is_19 hd rfl).trans (rd_none HV.out hN)
                simp only [Prod.mk.injEq] at h2
                obtain ⟨rfl, rfl⟩ := h2
                have HFE := Lib.hid s1.bel
                unfold RVr RV wrong e0
                dsimp only
                have hq := eql39 0 0 ⟨#[]⟩ 0 0 0
                unfold RVal at hq
                have hgd := guard39
                clear hd HC s1 s2 p0 p1 p2 p3 p4 p5 x0 x1 x2 x3 x4 x5
                go_wp2_with fail
                go_ret
                exact HEND.out _ HFE.out
              | some s =>
                obtain ⟨y9, h3, hgv9⟩ := rd_some HV.out hN
                have h2 := hs.trans h3
                simp only [Prod.mk.injEq] at h2
                obtain ⟨rfl, rfl⟩ := h2
                have HGV9 := Lib.hid hgv9
                have hjn : j + 1 ≤ NL.length := by have := (List.getElem?_eq_some_iff.1 hN).1; omega
                have HTK := Lib.hid (show NL.take (j + 1) = NL.take j ++ [s] by rw [List.take_add_one, hN]; rfl)
                unfold RVr RV
                dsimp only
                clear hs h3 hgv9
                go_upto_region 26 with fail
                obtain ⟨w9, hw9⟩ : ∃ W, w8.alloc (.cells #[.int .i64 0, .int .i64 1, .string ⟨s.toArray⟩, .int .i64 0, .int .i64 0, .int .i64 0] 39) = W := ⟨_, rfl⟩
                have hb9 : Below w8.heap.size w8 w9 := by rw [← hw9]; exact bel_alloc _ _
                have HX9 := Lib.hid (show Rw w9 w8.heap.size [.int .i64 0, .int .i64 1, .string ⟨s.toArray⟩, .int .i64 0, .int .i64 0, .int .i64 0] by rw [← hw9]; exact Rw.new w8 [.int .i64 0, .int .i64 1, .string ⟨s.toArray⟩, .int .i64 0, .int .i64 0, .int .i64 0] 39)
                have H9 := Lib.hid (H8.out.over hb9)
                obtain ⟨g9, hg9⟩ : ∃ g, w8.heap.size = g := ⟨_, rfl⟩
                rw [hg9] at HX9
                obtain ⟨x0, x1, x2, x3, x4, x5⟩ := HX9.out.six
                clear hb9 H8
                have HOV := Lib.hid (fun ob => H9.out.over (bel_alloc w9 ob))
                have HBS := Lib.hid (fun ob => (HOV.out ob).s.bel.size)
                have HNS := Lib.hid hN
                have HLE := Lib.hid hlen
                try clear hw3
                try clear hw4
                try clear hgo
                obtain ⟨i0, hi, hz0, hz1, hz2⟩ := info_parts9
                have HEN := Lib.hid (show ∀ W v' Y T', T' ≤ 3 * k + 6 + 6 * (j + 1) → TD w W P B Q v' (NL.take j ++ [s]) Y y8 T' G2 [.int .i64 0, .int .i64 n2, .string b2, .int .i64 k2, .int .i64 z2, .int .i64 l2] → TD w W P B Q v' (NL.take (j + 1)) Y y8 (3 * k + 6 + 6 * (j + 1)) G2 [.int .i64 0, .int .i64 n2, .string b2, .int .i64 k2, .int .i64 z2, .int .i64 l2] from fun W v' Y T' hT h => by rw [HTK.out]; exact h.up hT)
                obtain ⟨sb, hsb⟩ : ∃ b : ByteArray, (⟨s.toArray⟩ : ByteArray) = b := ⟨_, rfl⟩
                rw [hsb] at x2 HX9
                have HSB := Lib.hid hsb
                by_cases hj0 : j = 0
                · clear hN hlen hsb
                  subst hj0
                  go_upto_region 29 with fail
                  go_quiet (fail)
                  obtain ⟨wq, hwq⟩ : ∃ W, w9.drewN nq = W := ⟨_, rfl⟩
                  have hbq : Below w9.heap.size w9 wq := by rw [← hwq]; exact dn.below_drewN (Below.refl _ _) _
                  have HQ9 := Lib.hid (H9.out.below hbq)
                  obtain ⟨x0, x1, x2, x3, x4, x5⟩ := (HX9.out.below hbq).six
                  have HOV := Lib.hid (fun ob => HQ9.out.over (bel_alloc wq ob))
                  have HBS := Lib.hid (fun ob => (HOV.out ob).s.bel.size)
                  clear hbq
                  go_wp2_with (first | (at_builtin; go_must (refine wpList_append_own_at _ rfl (.tmp 144) (.tmp 147) 48 rfl w.heap.size 9 i0 _ 1 16 Tryz.underlying48 hi hz0 hz1 hz2 rfl (by decide) (.slice A' 0 c') (NL.take 0).length ((NL.take 0).map Sn) rfl (HOV.out _).r ⟨wq.heap.size, 0, none⟩ 1 1 [.string sb] rfl rfl (cell_one_new _ _ _) (by intro u hu; simp at hu; subst hu; rfl) (by have := HLE.out; unfold maxLen; omega) (by have := HLE.out; omega) (HBS.out _) ?_; intro v' w12 hown hgr _ ho; rw [← HSB.out] at hown; have HT12 := Lib.hid (HEN.out _ _ _ _ (by omega) ((HOV.out _).app hown hgr ho)); clear hown hgr ho)) | fail)
                  go_roundg (gk - 1)
                  case measure => omega
                  case rel => exact ⟨0 + 1, _, _, _, by omega, by omega, by go_num, rfl, HT12, HD8, HL8, HGV9⟩
                · obtain ⟨i, hij⟩ : ∃ i, j - 1 = i := ⟨_, rfl⟩
                  have hji : j = i + 1 := by omega
                  obtain ⟨A2', c2', hv2, -, -, HNM⟩ := own_names H9.out.r
                  obtain ⟨x, hx⟩ : ∃ x, NL[i]? = some x := ⟨NL[i]'(by omega), List.getElem?_eq_getElem _⟩
                  obtain ⟨Gr, hGr, e1⟩ := HNM i x (by rw [List.getElem?_take, if_pos (by omega)]; exact hx)
                  obtain rfl : A' = some ⟨Gr, 0, none⟩ := by injection hv2 with h; rw [h]; exact hGr
                  have hls := HRI.out i x s hx (by rw [← hji]; exact hN)
                  have hsub : IntKind.i64.wrap ((j : Int) - 1) = (i : Int) := by rw [show (j : Int) - 1 = (i : Int) by omega]; exact IntWalk.i64_in _ (by omega)
                  have hgt : decide ((j : Int) > 0) = true := by simp; omega
                  have hgt2 : decide (0 < j) = true := by simp; omega
                  have hgt3 : 0 < j := by omega
                  have hgt4 : (0 : Int) < j := by omega
                  have hil : (i : Int) < j := by omega
                  obtain ⟨xb, hxb⟩ : ∃ b : ByteArray, (⟨x.toArray⟩ : ByteArray) = b := ⟨_, rfl⟩
                  have e2 : w9.cell? ⟨Gr, i, none⟩ = some (.string xb) := by rw [← hxb]; exact e1
                  have hls2 : Op.bytesLess xb.toList sb.toList = true := by rw [← hxb, ← hsb]; exact hls
                  clear hls hxb e1
                  clear hN hlen hsb hv2 hGr hx HNM hji hij hj0
                  go_upto_region 29 with fail
                  go_quiet (fail)
                  obtain ⟨wq, hwq⟩ : ∃ W, w9.drewN nq = W := ⟨_, rfl⟩
                  have hbq : Below w9.heap.size w9 wq := by rw [← hwq]; exact dn.below_drewN (Below.refl _ _) _
                  have HQ9 := Lib.hid (H9.out.below hbq)
                  obtain ⟨x0, x1, x2, x3, x4, x5⟩ := (HX9.out.below hbq).six
                  have HOV := Lib.hid (fun ob => HQ9.out.over (bel_alloc wq ob))
                  have HBS := Lib.hid (fun ob => (HOV.out ob).s.bel.size)
                  clear hbq
                  go_wp2_with (first | (at_builtin; go_must (refine wpList_append_own_at _ rfl (.tmp 144) (.tmp 147) 48 rfl w.heap.size 9 i0 _ 1 16 Tryz.underlying48 hi hz0 hz1 hz2 rfl (by decide) (.slice (some ⟨Gr, 0, none⟩) j c') (NL.take j).length ((NL.take j).map Sn) rfl (HOV.out _).r ⟨wq.heap.size, 0, none⟩ 1 1 [.string sb] rfl rfl (cell_one_new _ _ _) (by intro u hu; simp at hu; subst hu; rfl) (by have := HLE.out; unfold maxLen; omega) (by have := HLE.out; omega) (HBS.out _) ?_; intro v' w12 hown hgr _ ho; rw [← HSB.out] at hown; have HT12 := Lib.hid (HEN.out _ _ _ _ (by omega) ((HOV.out _).app hown hgr ho)); clear hown hgr ho)) | fail)
                  go_roundg (gk - 1)
                  case measure => omega
                  case rel => exact ⟨j + 1, _, _, _, by omega, by omega, by go_num, rfl, HT12, HD8, HL8, HGV9⟩

set_option maxRecDepth 100000 in
theorem lifted (os : Os) (started : os.Started) (H : Type) (enc : TypeId × Value → H) :
    ReturnsInHanded {} Tryz.checked os 6 .any (Rows.treeDirsSpec.pre6 enc Tryz.prog Tryz.f6 Rows.treeDirsRow.domain false) (Rows.treeDirsSpec.post enc Tryz.prog Tryz.f6 false true false false) := by
  refine returnsInHanded_of_change (C := Tryz.checked) own started (by kernel_rfl) Tryz.func6
    (ChangeSpec.witness6 (enc := enc) (C := Tryz.checked) false ⟨#[], #[.slice none 0 0, .string ByteArray.empty, .slice none 0 0], []⟩ 8 (by kernel_rfl) (by kernel_rfl) (by kernel_rfl) (by kernel_rfl)) ?_
  intro W base args ds gs before hval0 hW hcnd _
  have hval : ∀ (j : Nat) t v, Tryz.f6.params[j]? = some t → args[j]? = some v → Value.okWide Tryz.prog W .any base t v := hval0
  have hW' := hW
  obtain ⟨p, q, hA0, hV, rfl, hfz, hnd⟩ := hW
  have hA : DataW.TrodAll enc Tryz.prog W 0 (fun _ => true) true Tryz.f6.params.toList args.toList ds p := hA0
  rw [Tryz.params6] at hA hval
  obtain ⟨v0, vs0, d0, ds0, p0, q0, hargs, rfl, rfl, h0, r0⟩ := trodAll_cons hA
  obtain ⟨v1, vs1, d1, ds1, p1, q1, rfl, rfl, rfl, h1, r1⟩ := trodAll_cons r0
  obtain ⟨v2, vs2, d2, ds2, p2, q2, rfl, rfl, rfl, h2, r2⟩ := trodAll_cons r1
  obtain ⟨rfl, rfl, rfl⟩ := trodAll_nil r2
  obtain rfl : args = #[v0, v1, v2] := by cases args; simp_all
  obtain ⟨rfl, rfl⟩ := trodVars_none hV
  have hlt := fun x hx => hW'.lt x hx
  have t0 := h0
  obtain ⟨A0, n0, c0, x0, rfl, e0, s0⟩ := open_calls (hval 0 22 v0 rfl rfl) h0
  obtain ⟨a1, rfl, rfl, rfl, w1⟩ := open_string Tryz.underlying9 (hval 1 9 v1 rfl rfl) h1
  have t2 := h2
  obtain ⟨A2, n2, c2, x2, rfl, e2, s2⟩ := open_calls (hval 2 22 v2 rfl rfl) h2
  clear hA0 hval0
  refine (walk A0 n0 c0 x0 a1 A2 n2 c2 x2 W e0 s0 w1 e2 s2).mono fun e W' ⟨he, hg⟩ => ?_
  subst he
  exact ⟨_, rfl, law_post (pv := []) hW' (fun _ _ _ => (trodAll_cons_mk (shut_bool Tryz.underlying4 _) trodAll_mk0)) (fun sp hsp => (trodAll_cons_mk (arg_stays t0 hg (by simp +contextual) hlt hsp laid) (trodAll_cons_mk (shut_string Tryz.underlying9 w1) (trodAll_cons_mk (arg_stays t2 hg (by simp +contextual) hlt hsp laid) trodAll_mk0)))) (fun _ _ => rfl) (by simp)
    hg (ok_one (by kernel_rfl) rfl (okWide_bool_mk Tryz.underlying4 _))⟩

theorem over : Rows.treeDirsRow.holds Tryz.pinned (OpenSpec.ofChange Rows.treeDirsSpec) :=
  OpenClaim.holds_of_wide 6 Tryz.f6 rfl rfl rfl rfl rfl rfl rfl ⟨rfl, rfl, rfl, rfl, rfl⟩ rfl rfl rfl rfl rfl (by kernel_rfl) Tryz.func6 (by kernel_rfl)
    (of_decide_eq_true (by kernel_rfl)) (by unfold Func.isWrapper; first | (rw [if_pos (by decide +kernel)]; kernel_rfl) | (rw [if_neg (by decide +kernel)]; exact ⟨rfl, rfl⟩))
    (fun os started H enc _ => lifted os started H enc)

/-- The statement. -/
theorem proved : Rows.TreeDirsSaid :=
  over
end Go.Proofs.YtpmpbmjjlccbbaaGreat.treeDirs
