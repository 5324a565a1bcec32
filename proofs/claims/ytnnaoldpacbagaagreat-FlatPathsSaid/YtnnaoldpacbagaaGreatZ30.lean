/- 'Tree': a line's path as the names of its directory and its own. 'Tree': the directory in which a line's name is to be made. 'Tree': what a line makes of a branch; mathematics. 'Tree', walked: a line is put; all of them are. 'Tree', walked: a line is put. 'Tree', walked: all lines. -/
import Derived.Test.YtnnaoldpacbagaaGreatZ02
import Derived.Test.YtnnaoldpacbagaaGreatZ20
import Derived.BigQuiet
import Derived.OwnWalk
import Derived.StillTailTactics
import Derived.Deep.LoopGhost
import Derived.Test.YtnnaoldpacbagaaGreatZ26
import Derived.Test.YtnnaoldpacbagaaGreatZ21
import Derived.Lib.ConvBytes
import Derived.Test.YtnnaoldpacbagaaGreatZ27
section
namespace Go.Proofs.YtnnaoldpacbagaaGreat.fl
open Go.RowKit
open Go.Proofs.YtnnaoldpacbagaaGreat.br (BS Ino Inv Good)
open Go.Proofs.YtnnaoldpacbagaaGreat.cb (BrX RetW RetI No)
open Go.Proofs.YtnnaoldpacbagaaGreat.bl (Pq)
open Go.Proofs.YtnnaoldpacbagaaGreat.pa (Bs)
set_option linter.unusedVariables false
set_option linter.unusedSimpArgs false

def pfx (s : ByteArray) : Bool := Lib.hasPrefix s.data.toList [47]
def splitM (s : ByteArray) : Option (List Bs × Bs) :=
  if pa.perr s.data.toList ≠ 0 ∨ pfx s = false ∨ pa.lastNo (pa.pnames s.data.toList) = true then none
  else some ((pa.pnames s.data.toList).dropLast, (pa.pnames s.data.toList).getLast?.getD [])
def SplitE (w : World) (s : ByteArray) (e : Ending) (w' : World) : Prop :=
  (splitM s = none ∧ e = .returned (.tuple #[.slice none 0 0, .string ⟨#[]⟩, .bool false]) ∧ Below w.heap.size w w') ∨
  (∃ ys x A c, splitM s = some (ys, x) ∧ e = .returned (.tuple #[.slice A ys.length c, pa.Sv x, .bool true]) ∧ pa.Own w' w.heap.size A c ys ∧ Below w.heap.size w w')
theorem split_no {s : ByteArray} (h : pa.perr s.data.toList ≠ 0 ∨ pfx s = false ∨ pa.lastNo (pa.pnames s.data.toList) = true) : splitM s = none := if_pos h
theorem split_yes {s : ByteArray} (ys : List Bs) (x : Bs) (h1 : pa.perr s.data.toList = 0) (h2 : pfx s = true) (h3 : pa.pnames s.data.toList = ys ++ [x]) (h4 : pa.dotB x = false) : splitM s = some (ys, x) := by
  unfold splitM
  rw [if_neg, h3]
  · simp
  · rw [h3]
    simp [h1, h2, pa.lastNo, h4]
theorem names_len {l : Bs} (h : pa.perr l = 0) : (pa.pnames l).length ≤ 40 := by
  unfold pa.pnames; rw [if_pos h]; exact (pa.perr_zero.1 h).2.2.2.2
theorem own_fits {w : World} {B : Nat} {A : Option Addr} {c : Nat} {xs : List Bs} (h : pa.Own w B A c xs) : xs.length ≤ c ∧ c ≤ maxLen := by
  rcases h.2 with ⟨e, h0⟩ | ⟨g, cap, cur, hv, hb, hg, h1, h2, _⟩
  · injection e with _ _ e; subst e; exact ⟨by omega, by unfold maxLen; omega⟩
  · injection hv with _ _ e; subst e; exact ⟨h1, h2⟩
set_option maxRecDepth 100000 in
set_option maxHeartbeats 2000000 in
theorem split_any (s : ByteArray) (w : World) : Calls Tryz.prog 190 #[.string s] w (SplitE w s) := by
  have HP := Lib.hid (pa.parse_any s w)
  have HX := Lib.hid (fun W => Tryz.strings_HasPrefix s ⟨#[47]⟩ W)
  rw [show Lib.hasPrefix s.data.toList (⟨#[47]⟩ : ByteArray).data.toList = pfx s from rfl] at HX
  have HN := Lib.hid (@split_no s)
  have HY := Lib.hid (@split_yes s)
  have HL := Lib.hid (@names_len s.data.toList)
  unfold SplitE
  unfold pa.ParseE at HP
  generalize pfx s = px at *
  generalize pa.perr s.data.toList = pe at *
  generalize pa.pnames s.data.toList = ns at *
  generalize pa.pdirE s.data.toList = pd at *
  generalize splitM s = sm at *
  go_enter Tryz.func190, Tryz.ntmps190
  go_wp2_with fail
  refine HP.out.mono ?_
  rintro _ w1 ⟨A, c, rfl, hown, hb1⟩
  obtain ⟨m, hm⟩ : ∃ m, ns.length = m := ⟨_, rfl⟩
  have HM := Lib.hid hm
  have HC := Lib.hid (own_fits hown)
  have HST := Lib.hid (fun ob => (hown.strs).keep (w' := w1.alloc ob) (fun p hp => World.cell?_alloc_lt _ _ _ hp))
  have HB1 := Lib.hid hb1
  rw [hm] at HC
  rw [hm]
  obtain ⟨w2, hw2⟩ : ∃ w2, w1.alloc (.cells #[.slice A m c, .bool pd] 278) = w2 := ⟨_, rfl⟩
  have HS2 := Lib.hid (show pa.Strs w2 w1.heap.size A ns by rw [← hw2]; exact HST.out _)
  have HB2 := Lib.hid (show Below w1.heap.size w1 w2 by rw [← hw2]; exact (Below.refl _ _).alloc (Nat.le_refl _) _)
  have HZ := Lib.hid (show w2.heap.size = w1.heap.size + 1 by rw [← hw2, World.size_alloc])
  have HBE := Lib.hid (HB1.out.trans (HB2.out.mono HB1.out.size))
  have u0 : w2.cell? ⟨w1.heap.size, 0, none⟩ = some (.slice A m c) := by rw [← hw2]; simp
  have u1 : w2.cell? ⟨w1.heap.size, 1, none⟩ = some (.bool pd) := by rw [← hw2]; simp
  obtain ⟨g, hg⟩ : ∃ g, w1.heap.size = g := ⟨_, rfl⟩
  rw [hg] at u0 u1
  have HGG := Lib.hid hg
  clear hown hb1 hm HST HP
  by_cases e0 : pe = 0
  case neg =>
    have q0 : (pe != 0) = true := by simpa using e0
    have HNN := Lib.hid (HN.out (.inl e0))
    clear HN HY
    go_wp2_with fail
    go_ret3
    exact .inl ⟨HNN.out, rfl, HBE.out⟩
  subst e0
  cases px with
  | false =>
    have HNN := Lib.hid (HN.out (.inr (.inl rfl)))
    clear HN HY
    go_wp2_with fail
    refine (HX.out _).mono ?_
    rintro _ w3 ⟨rfl, rfl⟩
    go_wp2_with fail
    go_ret3
    exact .inl ⟨HNN.out, rfl, HBE.out⟩
  | true =>
    go_wp2_with fail
    refine (HX.out _).mono ?_
    rintro _ w3 ⟨rfl, rfl⟩
    have HLA := Lib.hid (pa.last_any A m c w1.heap.size pd ns w3 HM.out.symm (by have := HL.out (by first | rfl | trivial); have := HM.out; omega) HC.out.1 (by have := HZ.out; omega) HS2.out)
    rcases HLA.out with ⟨hl, hc⟩ | ⟨ys, x, he, hx, hc⟩
    · have HNN := Lib.hid (HN.out (.inr (.inr hl)))
      have HCC := Lib.hid hc
      unfold pa.LastNo at HCC
      clear HN HY hl hc HLA HX
      go_wp2_with fail
      refine HCC.out.mono ?_
      rintro _ w4 ⟨rfl, hb4⟩
      have HB4 := Lib.hid (HBE.out.trans (hb4.mono HBE.out.size))
      clear hb4
      go_wp2_with fail
      go_ret3
      exact .inl ⟨HNN.out, rfl, HB4.out.trans ((Below.refl _ _).alloc HB4.out.size _)⟩
    · have HYY := Lib.hid (HY.out ys x (by first | rfl | trivial) (by first | rfl | trivial) he hx)
      have HCC := Lib.hid hc
      unfold pa.LastYes at HCC
      clear HN HY he hx hc HLA HX
      go_wp2_with fail
      refine HCC.out.mono ?_
      rintro _ w4 ⟨A4, c4, rfl, hown4, hb4⟩
      have HB4 := Lib.hid (HBE.out.trans (hb4.mono HBE.out.size))
      have HO4 := Lib.hid (hown4.base HBE.out.size)
      clear hb4 hown4
      go_wp2_with fail
      go_ret3
      exact .inr ⟨ys, x, A4, c4, HYY.out, rfl, HO4.out.keep ((Below.refl _ _).alloc (Nat.le_refl _) _), HB4.out.trans ((Below.refl _ _).alloc HB4.out.size _)⟩
end Go.Proofs.YtnnaoldpacbagaaGreat.fl
end
section
namespace Go.Proofs.YtnnaoldpacbagaaGreat.fl
open Go.RowKit
open Go.Proofs.YtnnaoldpacbagaaGreat.br (BS Ino Inv Good)
open Go.Proofs.YtnnaoldpacbagaaGreat.cb (BrX RetW RetI No)
open Go.Proofs.YtnnaoldpacbagaaGreat.bl (Pq)
open Go.Proofs.YtnnaoldpacbagaaGreat.pa (Bs)
set_option linter.unusedVariables false
set_option linter.unusedSimpArgs false

def goM (S : BS) : Int → List Bs → Int × Int
  | d, [] => (d, 0)
  | d, y :: ys => if (S.get d ⟨y.toArray⟩).2 ≠ 0 then (0, (S.get d ⟨y.toArray⟩).2) else goM S (S.get d ⟨y.toArray⟩).1 ys
def placeM (S : BS) (s : ByteArray) : (Int × ByteArray) × Int :=
  match splitM s with
  | none => ((0, ⟨#[]⟩), 22)
  | some (ys, x) =>
    if (goM S 1 ys).2 ≠ 0 then ((0, ⟨#[]⟩), (goM S 1 ys).2)
    else if S.kindOf (goM S 1 ys).1 ≠ 2 then ((0, ⟨#[]⟩), 20) else (((goM S 1 ys).1, ⟨x.toArray⟩), 0)
abbrev PlV (r : (Int × ByteArray) × Int) : Value := .tuple #[.int .i64 r.1.1, .string r.1.2, .int .i64 r.2]
theorem goM_drop {S : BS} {ys : List Bs} {j : Nat} {y : Bs} {d : Int} (h : ys[j]? = some y) : goM S d (ys.drop j) = if (S.get d ⟨y.toArray⟩).2 ≠ 0 then (0, (S.get d ⟨y.toArray⟩).2) else goM S (S.get d ⟨y.toArray⟩).1 (ys.drop (j + 1)) := by
  have hj := (List.getElem?_eq_some_iff.1 h).1
  rw [List.drop_eq_getElem_cons hj]
  have : ys[j] = y := (List.getElem?_eq_some_iff.1 h).2
  rw [this]; rfl
set_option maxRecDepth 100000 in
set_option maxHeartbeats 4000000 in
theorem place_any {w0 w : World} {P room T : Nat} {X : Nat → Prop} {S : BS} (h : BrX w0 w P X S room T) (s : ByteArray) : Calls Tryz.prog 178 #[Pq P, .int .i64 1, .string s] w (RetW w (PlV (placeM S s))) := by
  have HS := Lib.hid (split_any s w)
  have HG := Lib.hid (fun W (hb : Below w.heap.size w W) d y => cb.x_get (h.below hb) d y)
  have HK := Lib.hid (fun W (hb : Below w.heap.size w W) d => cb.x_kind (h.below hb) d)
  unfold RetW at HG
  unfold RetI at HK
  have HP := Lib.hid (show placeM S s = match splitM s with
    | none => ((0, ⟨#[]⟩), 22)
    | some (ys, x) => if (goM S 1 ys).2 ≠ 0 then ((0, ⟨#[]⟩), (goM S 1 ys).2)
    else if S.kindOf (goM S 1 ys).1 ≠ 2 then ((0, ⟨#[]⟩), 20) else (((goM S 1 ys).1, ⟨x.toArray⟩), 0) from rfl)
  generalize placeM S s = pm at *
  unfold SplitE at HS
  obtain ⟨sm, hsm⟩ : ∃ m, splitM s = m := ⟨_, rfl⟩
  rw [hsm] at HS HP
  have HRR := Lib.hid (show ∀ (v : Value) (W : World), v = PlV pm → Below w.heap.size w W → RetW w (PlV pm) (.returned v) W from fun v W e hb => ⟨by rw [e], hb⟩)
  clear h hsm
  go_enter Tryz.func178, Tryz.ntmps178
  go_wp2_with fail
  refine HS.out.mono ?_
  rintro e w1 (⟨rfl, rfl, hb1⟩ | ⟨ys, x, A, c, rfl, rfl, hown, hb1⟩)
  · have HB := Lib.hid hb1
    clear hb1 HS
    dsimp only at HP
    go_wp2_with fail
    go_ret3
    exact HRR.out _ _ (by rw [HP.out]; rfl) HB.out
  dsimp only at HP
  have HB1 := Lib.hid hb1
  have HST := Lib.hid (fun W (hb : Below w1.heap.size w1 W) => (hown.strs).keep (w' := W) (fun p hp => hb.cell hp))
  obtain ⟨m, hm⟩ : ∃ m, ys.length = m := ⟨_, rfl⟩
  have HM := Lib.hid hm
  have HC := Lib.hid (own_fits hown)
  rw [hm] at HC
  rw [hm]
  have hm0 : m ≤ 9223372036854775807 := by have h1 := HC.out; unfold maxLen at h1; omega
  have HGL := Lib.hid (show ∀ j, j < m → ∃ x, ys[j]? = some x from fun j hj => ⟨ys[j]'(by omega), List.getElem?_eq_getElem _⟩)
  clear hown hb1 HS hm
  go_upto_region 6 with fail
  go_loopg [12, 28] m (fun gh s10 s25 wr => ∃ (j : Nat) (d : Int), gh + j = m ∧ s10 = .int .i64 d ∧ s25 = .int .i64 j ∧ Hid (goM S 1 ys = goM S d (ys.drop j)) ∧ Hid (Below w1.heap.size w1 wr))
  case atStart => exact ⟨0, 1, by omega, rfl, rfl, Lib.hid rfl, Lib.hid (Below.refl _ _)⟩
  case round =>
    obtain ⟨j, d, hgj, rfl, rfl, HGM, HBr⟩ := hrel
    by_cases hj : j < m
    · obtain ⟨y, hy⟩ := HGL.out j hj
      have HD := Lib.hid (goM_drop (S := S) (d := d) hy)
      obtain ⟨ad, hA, hlt, hcell⟩ := HST.out _ HBr.out (by have := HM.out; omega)
      have e1 := hcell j y hy
      subst hA
      have HGG := Lib.hid (HG.out wr (HB1.out.trans (HBr.out.mono HB1.out.size)) d ⟨y.toArray⟩)
      obtain ⟨gr, hgr⟩ : ∃ r, S.get d ⟨y.toArray⟩ = r := ⟨_, rfl⟩
      rw [hgr] at HGG HD
      obtain ⟨g1, g2⟩ := gr
      dsimp only at HGG HD
      clear hy hlt hcell hgr
      go_wp2_with fail
      refine HGG.out.mono ?_
      rintro _ w2 ⟨rfl, hb2⟩
      have HB2 := Lib.hid (HBr.out.trans (hb2.mono HBr.out.size))
      have HBF := Lib.hid (HB1.out.trans (HB2.out.mono HB1.out.size))
      clear hb2 HGG HBr
      by_cases e0 : g2 = 0
      · subst e0
        rw [if_neg (fun e => e rfl)] at HD
        go_wp2_with fail
        go_roundg (gk - 1)
        case measure => omega
        case rel => exact ⟨j + 1, g1, by omega, rfl, by go_num, Lib.hid (HGM.out.trans HD.out), HB2⟩
      · have q0 : (g2 != 0) = true := by simpa using e0
        rw [if_pos e0] at HD
        have HE := Lib.hid (HGM.out.trans HD.out)
        rw [HE.out, if_pos e0] at HP
        go_wp2_with fail
        go_ret3
        exact HRR.out _ _ (by rw [HP.out]; rfl) HBF.out
    · obtain rfl : j = m := by omega
      have HE := Lib.hid (show goM S 1 ys = (d, 0) by rw [HGM.out, List.drop_eq_nil_of_le (by have := HM.out; omega)]; rfl)
      rw [HE.out, if_neg (fun e => e rfl)] at HP
      dsimp only at HP
      have HBF := Lib.hid (HB1.out.trans (HBr.out.mono HB1.out.size))
      have HKK := Lib.hid (HK.out wr HBF.out d)
      obtain ⟨k, hk⟩ : ∃ k, S.kindOf d = k := ⟨_, rfl⟩
      rw [hk] at HKK HP
      clear hk
      go_wp2_with fail
      refine HKK.out.mono ?_
      rintro _ w2 ⟨rfl, hb2⟩
      have HBE := Lib.hid (HBF.out.trans (hb2.mono HBF.out.size))
      clear hb2 HKK
      by_cases e2 : k = 2
      · subst e2
        rw [if_neg (fun e => e rfl)] at HP
        go_wp2_with fail
        go_ret3
        exact HRR.out _ _ (by rw [HP.out]; rfl) HBE.out
      · have q2 : (k != 2) = true := by simpa using e2
        rw [if_pos e2] at HP
        go_wp2_with fail
        go_ret3
        exact HRR.out _ _ (by rw [HP.out]; rfl) HBE.out
end Go.Proofs.YtnnaoldpacbagaaGreat.fl
end
section
namespace Go.Proofs.YtnnaoldpacbagaaGreat.fl
open Go.RowKit
open Go.Proofs.YtnnaoldpacbagaaGreat.br (BS Ino Inv Good abE sumF)
open Go.Proofs.YtnnaoldpacbagaaGreat.cb (BrX RetW RetI No WrI MadeI)
open Go.Proofs.YtnnaoldpacbagaaGreat.bl (Pq AB wr WR IsStop okW usedW thW cnt)
open Go.Proofs.YtnnaoldpacbagaaGreat.pa (Bs)
set_option linter.unusedVariables false
set_option linter.unusedSimpArgs false

def bF (s : ByteArray) : Nat → UInt8 := fun j => s.data.toList.getD j 0
/-- How many chunks bytes need. -/
def nch (n : Nat) : Nat := (n + 15) / 16
theorem cnt_lt (N : Nat) (c : Nat) (h : c ≤ N) : cnt N (fun k => decide (k < c)) = c := by
  unfold cnt
  have e : (List.range N).filter (fun k => decide (k < c)) = List.range c := by
    obtain ⟨d, rfl⟩ : ∃ d, N = c + d := ⟨N - c, by omega⟩
    rw [List.range_add, List.filter_append, List.filter_eq_self.2 (fun a ha => by simpa using ha), List.filter_eq_nil_iff.2, List.append_nil]
    intro a ha
    rw [List.mem_map] at ha
    obtain ⟨x, _, rfl⟩ := ha
    simp
  rw [e, List.length_range]
theorem thW_new (a : Nat) : thW abE 0 a = fun k => decide (k < nch a) := by
  funext k
  unfold thW abE nch
  simp only [Bool.false_or]
  exact decide_eq_decide.2 ⟨fun h => by omega, fun h => by omega⟩
theorem cnt_new {a : Nat} (h : a ≤ 65536) : cnt 4096 (thW abE 0 a) = nch a := by
  rw [thW_new, cnt_lt _ _ (by unfold nch; omega)]
theorem used_new {u a : Nat} (h : a ≤ 65536) : usedW abE u 0 (0 + a) = u + nch a := by
  unfold usedW
  rw [Nat.zero_add, cnt_new h, br.abE_n]; omega
theorem ok_new {u room q : Nat} (h : q ≤ 65536) : okW abE u room 0 q ↔ (q % 16 ≠ 0 ∨ u + nch q < room) := by
  unfold okW
  rw [used_new h, Nat.zero_add, thW_new]
  simp only [decide_eq_true_eq]
  have : q / 16 < nch q ↔ q % 16 ≠ 0 := by unfold nch; omega
  rw [this]
theorem stop_new {u room len p : Nat} (hl : 0 < len) (h : IsStop abE u room 0 (min len (65536 - 0)) p) : p = len ↔ len ≤ 65536 ∧ u + nch len ≤ room := by
  constructor
  · intro e
    subst e
    have h1 := h.le
    refine ⟨by omega, ?_⟩
    have h2 := h.ok (16 * ((p - 1) / 16)) (by omega)
    rw [ok_new (by omega)] at h2
    rcases h2 with h2 | h2
    · omega
    · unfold nch at h2 ⊢; omega
  · rintro ⟨h1, h2⟩
    rcases h.stop with e | e
    · omega
    · have h3 := h.le
      by_cases hp : p = len
      · exact hp
      · exfalso
        apply e
        rw [ok_new (by omega)]
        by_cases h4 : p % 16 = 0
        · right; unfold nch at h2 ⊢; omega
        · exact .inl h4
theorem wr_new_n {len : Nat} {f : Nat → UInt8} (h : len ≤ 65536) : (wr abE 0 len f).n = nch len := by
  show cnt 4096 (thW abE (0 : Int).toNat ((0 : Int).toNat + len)) = _
  rw [show (0 : Int).toNat = 0 from rfl, Nat.zero_add, cnt_new h]
/-- A file that was just made is written. -/
theorem file_write {S S' : BS} {room n len p : Nat} {f : Nat → UInt8} {err : Int} (h1 : 1 ≤ n) (h2 : n ≤ 200) (hk : (S.ino n).kind = 1) (hb : (S.ino n).body = abE) (h : WrI S room (n : Int) 0 len f p err S') :
    (len ≤ 65536 ∧ S.used + nch len ≤ room → err = 0 ∧ p = len ∧ S' = S.wrote (n : Int) 0 len f) ∧ (¬ (len ≤ 65536 ∧ S.used + nch len ≤ room) → err ≠ 0 ∨ p < len) := by
  have hf : S.fileE (n : Int) = 0 := by
    have : S.kindOf (n : Int) = 1 := by
      unfold BS.kindOf BS.isI
      rw [br.at_nat, decide_eq_true ⟨by omega, by omega, by rw [hk]; decide⟩, hk]; rfl
    unfold BS.fileE; rw [this]; rfl
  rcases h with ⟨h, _⟩ | ⟨_, hw, hu, _, rfl⟩
  · exact absurd hf h
  rw [br.at_nat, hb] at hw hu
  rcases hw with ⟨h, _⟩ | ⟨_, rfl, rfl, rfl⟩ | ⟨h, _⟩ | ⟨_, _, hl, hs, rfl⟩
  · omega
  · refine ⟨fun _ => ⟨rfl, rfl, rfl⟩, fun hn => absurd ⟨Nat.zero_le _, ?_⟩ hn⟩
    have e : (wr abE 0 0 f).n = 0 := (wr_new_n (Nat.zero_le _)).trans (by decide)
    rw [e, br.abE_n] at hu
    show S.used + nch 0 ≤ room
    have : nch 0 = 0 := by decide
    omega
  · omega
  · have hs' := stop_new hl hs
    refine ⟨fun hh => ?_, fun hh => ?_⟩
    · have e := hs'.2 hh
      subst e
      exact ⟨if_neg (by omega), rfl, rfl⟩
    · right
      have h3 := hs.le
      have : p ≠ len := fun e => hh (hs'.1 e)
      omega
def fileF (room : Nat) (S : BS) (d : Int) (x data : ByteArray) : Option BS :=
  if (S.make d x 1 ⟨#[]⟩).1.2 ≠ 0 then none
  else if data.size ≤ 65536 ∧ (S.make d x 1 ⟨#[]⟩).2.used + nch data.size ≤ room then some ((S.make d x 1 ⟨#[]⟩).2.wrote (S.make d x 1 ⟨#[]⟩).1.1 0 data.size (bF data)) else none
def makeF (S : BS) (d : Int) (x : ByteArray) (k : Int) (t : ByteArray) : Option BS := if (S.make d x k t).1.2 ≠ 0 then none else some (S.make d x k t).2
/-- What a line makes of a branch. -/
def putF (room : Nat) (S : BS) (x : Ln) : Option BS :=
  if (placeM S x.path).2 ≠ 0 then none
  else if x.kind = 1 then fileF room S (placeM S x.path).1.1 (placeM S x.path).1.2 x.data
  else if x.kind = 2 then makeF S (placeM S x.path).1.1 (placeM S x.path).1.2 2 ⟨#[]⟩
  else if x.kind = 3 then makeF S (placeM S x.path).1.1 (placeM S x.path).1.2 3 x.data
  else none
def treeF (room : Nat) : BS → List Ln → Option BS
  | S, [] => some S
  | S, x :: l => match putF room S x with | none => none | some S' => treeF room S' l
theorem treeF_drop {room : Nat} {S S' : BS} {l : List Ln} {j : Nat} {x : Ln} (h : l[j]? = some x) (hp : putF room S x = some S') : treeF room S (l.drop j) = treeF room S' (l.drop (j + 1)) := by
  have hj := (List.getElem?_eq_some_iff.1 h).1
  rw [List.drop_eq_getElem_cons hj, (List.getElem?_eq_some_iff.1 h).2]
  show (match putF room S x with | none => none | some S' => treeF room S' (l.drop (j + 1))) = _
  rw [hp]
theorem treeF_stop {room : Nat} {S : BS} {l : List Ln} {j : Nat} {x : Ln} (h : l[j]? = some x) (hp : putF room S x = none) : treeF room S (l.drop j) = none := by
  have hj := (List.getElem?_eq_some_iff.1 h).1
  rw [List.drop_eq_getElem_cons hj, (List.getElem?_eq_some_iff.1 h).2]
  show (match putF room S x with | none => none | some S' => treeF room S' (l.drop (j + 1))) = _
  rw [hp]
end Go.Proofs.YtnnaoldpacbagaaGreat.fl
end
section
namespace Go.Proofs.YtnnaoldpacbagaaGreat.fl
open Go.RowKit
open Go.Proofs.YtnnaoldpacbagaaGreat.br (BS Ino Inv Good abE sumF)
open Go.Proofs.YtnnaoldpacbagaaGreat.cb (BrX RetW RetI No WrI MadeI)
open Go.Proofs.YtnnaoldpacbagaaGreat.bl (Pq AB U8)
open Go.Proofs.YtnnaoldpacbagaaGreat.pa (Bs)
set_option linter.unusedVariables false
set_option linter.unusedSimpArgs false

/-- What a call that may put something leaves: the error; where there is none, what the branch is. -/
def PutE (w0 w : World) (P room T : Nat) (X : Nat → Prop) (r : Option BS) (k : Int → Prop) (e : Ending) (w' : World) : Prop :=
  ∃ (err : Int) (S' : BS), e = .returned (.int .i64 err) ∧ BrX w0 w' P X S' room T ∧ dn.Same X w w' ∧ ((err = 0 ∧ r = some S') ∨ (err ≠ 0 ∧ r = none ∧ k err))
theorem same_trans {X : Nat → Prop} {a b c : World} (h : dn.Same X a b) (k : dn.Same X b c) : dn.Same X a c := fun x hx => (k x hx).trans (h x hx)
theorem conv_in (w : World) (s : ByteArray) (hs : s.size ≤ 1000000) : ∃ c w', (convert 9 53 (.string s)).run Tryz.prog w = .ok (.slice (some ⟨w.heap.size, 0, none⟩) s.size c) w' ∧ s.size ≤ c ∧ c ≤ maxLen ∧ Below w.heap.size w w' ∧ w.heap.size < w'.heap.size ∧ ∀ j, j < s.size → w'.cell? ⟨w.heap.size, 0 + j, none⟩ = some (U8 (bF s j)) := by
  refine ⟨_, _, Lib.run_convert_string_bytes w 9 53 5 s Tryz.underlying9 Tryz.underlying53 Tryz.underlying5, grownCap_ge _ _ _ _, grownCap_le_maxLen _ _ _ _ (by unfold maxLen; omega), ?_, by rw [Lib.bytesWorld_size]; omega, fun j hj => ?_⟩
  · refine ⟨?_, ?_, ?_, by rw [Lib.bytesWorld_size]; omega, fun k hk => Lib.bytesWorld_at_old w 5 s k hk⟩
    · simp [Lib.bytesWorld, World.freeze] <;> rfl
    · simp [Lib.bytesWorld, World.freeze] <;> rfl
    · simp [Lib.bytesWorld, World.freeze] <;> rfl
  · rw [Nat.zero_add]; exact Lib.bytesWorld_cell w 5 s j hj
theorem brx_lt {w0 w : World} {P room T : Nat} {X : Nat → Prop} {S : BS} (h : BrX w0 w P X S room T) {b : Nat} (hb : X b) : b < w.heap.size := by
  obtain ⟨_, _, _, _, _, _, _, _, _, _, _, _, h7⟩ := h
  exact (h7 b hb).1
set_option maxRecDepth 100000 in
set_option maxHeartbeats 4000000 in
theorem putFile_any {w0 w : World} {P room T : Nat} {X : Nat → Prop} {S : BS} (h : BrX w0 w P X S room T) (hT : T ≤ 990) (d : Int) (x data : ByteArray) (hx : x.size ≤ 1000000) (hd : data.size ≤ 1000000) (k : Int → Prop) (hk : ∀ n, k n) :
    Calls Tryz.prog 179 #[Pq P, .int .i64 d, .string x, .string data] w (PutE w0 w P room (T + 2) X (fileF room S d x data) k) := by
  have HM := Lib.hid (cb.x_make h (by omega) d x 1 ⟨#[]⟩ (by omega) (by decide))
  have HG := Lib.hid h.good
  have HF := Lib.hid (show fileF room S d x data = if (S.make d x 1 ⟨#[]⟩).1.2 ≠ 0 then none
  else if data.size ≤ 65536 ∧ (S.make d x 1 ⟨#[]⟩).2.used + nch data.size ≤ room then some ((S.make d x 1 ⟨#[]⟩).2.wrote (S.make d x 1 ⟨#[]⟩).1.1 0 data.size (bF data)) else none from rfl)
  have HMO := Lib.hid (fun hh => cb.made_of HG.out (d := d) (s := x) (t := ⟨#[]⟩) (kind := 1) hh)
  have HK := Lib.hid hk
  generalize fileF room S d x data = fr at *
  obtain ⟨mk, hmk⟩ : ∃ m, S.make d x 1 ⟨#[]⟩ = m := ⟨_, rfl⟩
  rw [hmk] at HM HF HMO
  obtain ⟨⟨m1, m2⟩, S1⟩ := mk
  dsimp only at HM HF HMO
  clear h hmk hk
  have HDR := Lib.hid (show ∀ (err : Int) (S' : BS) (W : World), BrX w0 W P X S' room (T + 2) → dn.Same X w W → ((err = 0 ∧ fr = some S') ∨ (err ≠ 0 ∧ fr = none)) → PutE w0 w P room (T + 2) X fr k (.returned (.int .i64 err)) W from fun err S' W a b c => ⟨err, S', rfl, a, b, c.imp id fun ⟨c1, c2⟩ => ⟨c1, c2, HK.out _⟩⟩)
  go_enter Tryz.func179, Tryz.ntmps179
  go_wp2_with fail
  refine HM.out.mono ?_
  rintro _ w1 ⟨rfl, h1, hs1⟩
  have H1 := Lib.hid h1
  have HS1 := Lib.hid hs1
  clear h1 hs1 HM
  by_cases e0 : m2 = 0
  case neg =>
    have q0 : (m2 != 0) = true := by simpa using e0
    rw [if_pos e0] at HF
    go_wp2_with fail
    go_ret
    exact HDR.out m2 S1 w1 (H1.out.up (by omega)) HS1.out (.inr ⟨e0, HF.out⟩)
  subst e0
  rw [if_neg (fun e => e rfl)] at HF
  obtain ⟨D, n, -, rfl, hmi, hbo⟩ := HMO.out (by first | rfl | trivial)
  have HFW := Lib.hid (fun (len p : Nat) (f : Nat → UInt8) (err : Int) (S' : BS) (hw : WrI S1 room (n : Int) 0 len f p err S') => file_write (S := S1) (S' := S') (room := room) (n := n) (len := len) (p := p) (f := f) (err := err) hmi.n1 hmi.n2 hmi.eN.1 hbo hw)
  obtain ⟨c, w2, hcv, hc1, hc2, hb2, hlt, hcell⟩ := conv_in w1 data hd
  have HB2 := Lib.hid hb2
  have HXL := Lib.hid (fun b (hb : X b) => hb2.block b (brx_lt H1.out hb))
  have HW := Lib.hid (cb.x_write (H1.out.over hb2) (n : Int) 0 (some ⟨w1.heap.size, 0, none⟩) data.size c (bF data) (fun j hj => ⟨w1.heap.size, 0, rfl, .inr (.inl ⟨Nat.le_refl _, hlt⟩), hcell j hj⟩) hc1 hc2)
  obtain ⟨g, hg⟩ : ∃ g, w1.heap.size = g := ⟨_, rfl⟩
  rw [hg] at hcv
  have HW2 := Lib.hid (show Calls Tryz.prog 35 #[Pq P, .int .i64 (n : Int), .int .i64 0, .slice (some ⟨g, 0, none⟩) data.size c] w2 (fun e w' => ∃ (p : Nat) (err : Int) (S' : BS), Hid (WrI S1 room (n : Int) 0 data.size (bF data) p err S') ∧ e = .returned (.tuple #[.int .i64 (p : Int), .int .i64 err]) ∧ Hid (BrX w0 w' P X S' room (T + 2)) ∧ Hid (dn.Same X w2 w')) by
    rw [← hg]
    refine HW.out.mono ?_
    rintro e w' ⟨p, err, S', a, b, cc, dd⟩
    exact ⟨p, err, S', Lib.hid a, b, Lib.hid (cc.sub fun b hb => .inl hb), Lib.hid fun b hb => dd b (.inl hb)⟩)
  obtain ⟨ds, hds⟩ : ∃ d, data.size = d := ⟨_, rfl⟩
  rw [hds] at HF HW2 hcv hd
  have HDS := Lib.hid hds
  have hdz := hds
  clear hb2 hlt hcell hg hmi hbo HW hc1 hc2 HMO hds
  go_wp2_with fail
  refine HW2.out.mono ?_
  rintro _ w3 ⟨p, err, S', HWR, rfl, H3, HS3⟩
  have HFF := Lib.hid (HFW.out ds p (bF data) err S' HWR.out)
  have HSS := Lib.hid (same_trans HS1.out (same_trans (fun b hb => HXL.out b hb) HS3.out))
  clear HWR HS3 HW2
  by_cases e1 : err = 0
  case neg =>
    have q1 : (err != 0) = true := by simpa using e1
    have HN := Lib.hid (show ¬ (ds ≤ 65536 ∧ S1.used + nch ds ≤ room) from fun hh => e1 (HFF.out.1 hh).1)
    rw [if_neg HN.out] at HF
    clear hcv
    go_wp2_with fail
    go_ret
    exact HDR.out err S' w3 H3.out HSS.out (.inr ⟨e1, HF.out⟩)
  subst e1
  by_cases e2 : p < ds
  · have HN := Lib.hid (show ¬ (ds ≤ 65536 ∧ S1.used + nch ds ≤ room) from fun hh => by have := (HFF.out.1 hh).2.1; omega)
    rw [if_neg HN.out] at HF
    clear hcv
    go_wp2_with fail
    go_ret
    exact HDR.out 28 S' w3 H3.out HSS.out (.inr ⟨by decide, HF.out⟩)
  · have HY := Lib.hid (show ds ≤ 65536 ∧ S1.used + nch ds ≤ room from Classical.byContradiction fun hn => by
      rcases HFF.out.2 hn with k1 | k1
      · exact k1 (by first | rfl | trivial)
      · exact e2 k1)
    rw [if_pos HY.out] at HF
    have HSE := Lib.hid (HFF.out.1 HY.out).2.2
    clear hcv
    go_wp2_with fail
    go_ret
    exact HDR.out 0 S' w3 H3.out HSS.out (.inl ⟨rfl, by rw [HF.out, HSE.out]⟩)
end Go.Proofs.YtnnaoldpacbagaaGreat.fl
end
section
namespace Go.Proofs.YtnnaoldpacbagaaGreat.fl
open Go.RowKit
open Go.Proofs.YtnnaoldpacbagaaGreat.br (BS Ino Inv abE sumF)
open Go.Proofs.YtnnaoldpacbagaaGreat.cb (BrX RetW RetI No WrI MadeI)
open Go.Proofs.YtnnaoldpacbagaaGreat.bl (Pq AB U8)
open Go.Proofs.YtnnaoldpacbagaaGreat.pa (Bs)
set_option linter.unusedVariables false
set_option linter.unusedSimpArgs false

abbrev Lv (x : Ln) : Value := .agg #[.string x.path, .int .i64 x.kind, .string x.data]
def Pk (S : BS) (x : Ln) (err : Int) : Prop := (placeM S x.path).2 ≠ 0 → err = (placeM S x.path).2
theorem place_size {S : BS} {s : ByteArray} : (placeM S s).1.2.size ≤ 1000000 := by
  unfold placeM
  split
  · decide
  · rename_i ys x h
    have hx : x.length ≤ 60 := by
      unfold splitM at h
      split at h
      · cases h
      · rename_i hn
        injection h with h
        injection h with h1 h2
        simp only [not_or] at hn
        have h0 : pa.perr s.data.toList = 0 := Classical.byContradiction fun e => hn.1 e
        have hc := (pa.perr_zero.1 h0).2.2.2.1
        subst h2
        cases hl : (pa.pnames s.data.toList).getLast? with
        | none => exact Nat.zero_le _
        | some y =>
          have hm := List.mem_of_getLast? hl
          unfold pa.pnames at hm
          rw [if_pos h0] at hm
          exact hc y (List.mem_filter.1 (by unfold pa.nms at hm; exact hm)).1
    split
    · exact (show (⟨#[]⟩ : ByteArray).size ≤ 1000000 by decide)
    · split
      · exact (show (⟨#[]⟩ : ByteArray).size ≤ 1000000 by decide)
      · show x.toArray.size ≤ _
        simp only [List.size_toArray]; omega
set_option maxHeartbeats 2000000 in
theorem dir_any {w0 w : World} {P room T : Nat} {X : Nat → Prop} {S : BS} (h : BrX w0 w P X S room T) (hT : T ≤ 990) (d : Int) (s : ByteArray) (hs : s.size ≤ 1000000) :
    Calls Tryz.prog 180 #[Pq P, .int .i64 d, .string s, .bool false] w (fun e w' => e = .returned (.int .i64 (S.make d s 2 ⟨#[]⟩).1.2) ∧ BrX w0 w' P X (S.make d s 2 ⟨#[]⟩).2 room (T + 1) ∧ dn.Same X w w') := by
  have HMK := Lib.hid (cb.x_make h (by omega) d s 2 ⟨#[]⟩ (by omega) (by decide))
  obtain ⟨mk, hmk⟩ : ∃ m, S.make d s 2 ⟨#[]⟩ = m := ⟨_, rfl⟩
  rw [hmk] at HMK ⊢
  obtain ⟨⟨m1, m2⟩, S1⟩ := mk
  dsimp only at HMK ⊢
  clear h hmk
  go_enter Tryz.func180, Tryz.ntmps180
  go_wp2_with fail
  refine HMK.out.mono ?_
  rintro _ w3 ⟨rfl, h3, hs3⟩
  have HE := Lib.hid (And.intro h3 hs3)
  clear h3 hs3 HMK
  by_cases e : m2 = 0
  · subst e
    go_wp2_with fail
    go_ret
    exact ⟨rfl, HE.out.1, HE.out.2⟩
  · have q : (m2 != 0) = true := by simpa using e
    go_wp2_with fail
    go_ret
    exact ⟨rfl, HE.out.1, HE.out.2⟩
set_option maxRecDepth 100000 in
set_option maxHeartbeats 4000000 in
theorem put_any {w0 w : World} {P room T : Nat} {X : Nat → Prop} {S : BS} (h : BrX w0 w P X S room T) (hT : T ≤ 990) (x : Ln) (hd : x.data.size ≤ 1000000) :
    Calls Tryz.prog 143 #[Pq P, .int .i64 1, Lv x, .bool false] w (PutE w0 w P room (T + 2) X (putF room S x) (Pk S x)) := by
  obtain ⟨xp, xk, xd⟩ := x
  obtain ⟨w1, hw1⟩ : ∃ w1, w.alloc (.cells #[.string xp, .int .i64 xk, .string xd] 79) = w1 := ⟨_, rfl⟩
  have hb1 : Below w.heap.size w w1 := by rw [← hw1]; exact (Below.refl _ _).alloc (Nat.le_refl _) _
  have t0 : w1.cell? ⟨w.heap.size, 0, none⟩ = some (.string xp) := by rw [← hw1]; simp
  have t1 : w1.cell? ⟨w.heap.size, 1, none⟩ = some (.int .i64 xk) := by rw [← hw1]; simp
  have t2 : w1.cell? ⟨w.heap.size, 2, none⟩ = some (.string xd) := by rw [← hw1]; simp
  have HXL := Lib.hid (fun b (hb : X b) => brx_lt h hb)
  have H1 := Lib.hid (h.below hb1)
  have HP := Lib.hid (place_any H1.out xp)
  unfold RetW at HP
  have hps := place_size (S := S) (s := xp)
  have HF := Lib.hid (show putF room S ⟨xp, xk, xd⟩ = if (placeM S xp).2 ≠ 0 then none
  else if xk = 1 then fileF room S (placeM S xp).1.1 (placeM S xp).1.2 xd
  else if xk = 2 then makeF S (placeM S xp).1.1 (placeM S xp).1.2 2 ⟨#[]⟩
  else if xk = 3 then makeF S (placeM S xp).1.1 (placeM S xp).1.2 3 xd
  else none from rfl)
  have HPK := Lib.hid (show ∀ e, Pk S ⟨xp, xk, xd⟩ e ↔ ((placeM S xp).2 ≠ 0 → e = (placeM S xp).2) from fun e => Iff.rfl)
  generalize putF room S ⟨xp, xk, xd⟩ = pr at *
  generalize Pk S ⟨xp, xk, xd⟩ = kk at *
  generalize placeM S xp = pm at *
  obtain ⟨⟨d, s⟩, pe⟩ := pm
  dsimp only at HP HF HPK hps hd
  have HB1 := Lib.hid hb1
  have HDR := Lib.hid (show ∀ (err : Int) (S' : BS) (W2 W : World), Below w.heap.size w W2 → BrX w0 W P X S' room (T + 2) → dn.Same X W2 W → ((err = 0 ∧ pr = some S') ∨ (err ≠ 0 ∧ pr = none ∧ kk err)) → PutE w0 w P room (T + 2) X pr kk (.returned (.int .i64 err)) W from
    fun err S' W2 W hb a b c => ⟨err, S', rfl, a, same_trans (fun y hy => hb.block y (HXL.out y hy)) b, c⟩)
  obtain ⟨g, hg⟩ : ∃ g, w.heap.size = g := ⟨_, rfl⟩
  rw [hg] at t0 t1 t2
  clear h hb1
  go_enter Tryz.func143, Tryz.ntmps143
  go_wp2_with fail
  refine HP.out.mono ?_
  rintro _ w2 ⟨rfl, hb2⟩
  have H2 := Lib.hid (H1.out.below hb2)
  have HB2 := Lib.hid (HB1.out.trans (hb2.mono HB1.out.size))
  have u1 := (hb2.cell (p := ⟨g, 1, none⟩) (World.block_lt_of_cell? _ _ t1)).trans t1
  have u2 := (hb2.cell (p := ⟨g, 2, none⟩) (World.block_lt_of_cell? _ _ t2)).trans t2
  clear hb2 HP t0 t1 t2 hw1
  by_cases e0 : pe = 0
  case neg =>
    have q0 : (pe != 0) = true := by simpa using e0
    rw [if_pos e0] at HF
    go_wp2_with fail
    go_ret
    exact HDR.out pe S w2 w2 HB2.out (H2.out.up (by omega)) (fun _ _ => rfl) (.inr ⟨e0, HF.out, (HPK.out _).2 fun _ => rfl⟩)
  subst e0
  rw [if_neg (fun e => e rfl)] at HF
  have HKK := Lib.hid (show ∀ e, kk e from fun e => (HPK.out e).2 fun hn => absurd (by first | rfl | trivial) hn)
  by_cases e1 : xk = 1
  · subst e1
    rw [if_pos rfl] at HF
    have HPF := Lib.hid (putFile_any H2.out hT d s xd hps hd kk HKK.out)
    rw [← HF.out] at HPF
    unfold PutE at HPF
    go_wp2_with fail
    refine HPF.out.mono ?_
    rintro _ w3 ⟨err, S', rfl, h3, hs3, hc⟩
    have HE := Lib.hid (HDR.out err S' w2 w3 HB2.out h3 hs3 hc)
    clear h3 hs3 hc HPF
    go_wp2_with fail
    go_ret
    exact HE.out
  have q1 : (xk == 1) = false := by simpa using e1
  rw [if_neg e1] at HF
  by_cases e2 : xk = 2
  · subst e2
    rw [if_pos rfl] at HF
    have HMK := Lib.hid (dir_any H2.out hT d s hps)
    unfold makeF at HF
    obtain ⟨mk, hmk⟩ : ∃ m, S.make d s 2 ⟨#[]⟩ = m := ⟨_, rfl⟩
    rw [hmk] at HMK HF
    obtain ⟨⟨m1, m2⟩, S1⟩ := mk
    dsimp only at HMK HF
    clear hmk
    go_wp2_with fail
    refine HMK.out.mono ?_
    rintro _ w3 ⟨rfl, h3, hs3⟩
    have HE := Lib.hid (HDR.out m2 S1 w2 w3 HB2.out (h3.up (by omega)) hs3 (by
      by_cases e : m2 = 0
      · exact .inl ⟨e, by rw [HF.out, if_neg (fun hh => hh e)]⟩
      · exact .inr ⟨e, by rw [HF.out, if_pos e], HKK.out _⟩))
    clear h3 hs3 HMK
    go_wp2_with fail
    go_ret
    exact HE.out
  have q2 : (xk == 2) = false := by simpa using e2
  rw [if_neg e2] at HF
  by_cases e3 : xk = 3
  · subst e3
    rw [if_pos rfl] at HF
    have HMK := Lib.hid (cb.x_make H2.out (by omega) d s 3 xd (by omega) (by omega))
    unfold makeF at HF
    obtain ⟨mk, hmk⟩ : ∃ m, S.make d s 3 xd = m := ⟨_, rfl⟩
    rw [hmk] at HMK HF
    obtain ⟨⟨m1, m2⟩, S1⟩ := mk
    dsimp only at HMK HF
    clear hmk
    go_wp2_with fail
    refine HMK.out.mono ?_
    rintro _ w3 ⟨rfl, h3, hs3⟩
    have HE := Lib.hid (HDR.out m2 S1 w2 w3 HB2.out (h3.up (by omega)) hs3 (by
      by_cases e : m2 = 0
      · exact .inl ⟨e, by rw [HF.out, if_neg (fun hh => hh e)]⟩
      · exact .inr ⟨e, by rw [HF.out, if_pos e], HKK.out _⟩))
    clear h3 hs3 HMK
    go_wp2_with fail
    go_ret
    exact HE.out
  · have q3 : (xk == 3) = false := by simpa using e3
    rw [if_neg e3] at HF
    go_wp2_with fail
    all_goals
      go_ret
      exact HDR.out 22 S w2 w2 HB2.out (H2.out.up (by omega)) (fun _ _ => rfl) (.inr ⟨by decide, HF.out, HKK.out _⟩)
set_option maxHeartbeats 2000000 in
theorem putTop_any {w0 w : World} {P room T : Nat} {X : Nat → Prop} {S : BS} (h : BrX w0 w P X S room T) (hT : T ≤ 990) (x : Ln) (hd : x.data.size ≤ 1000000) :
    Calls Tryz.prog 102 #[Pq P, .int .i64 1, Lv x] w (PutE w0 w P room (T + 2) X (putF room S x) (Pk S x)) := by
  obtain ⟨xp, xk, xd⟩ := x
  obtain ⟨w1, hw1⟩ : ∃ w1, w.alloc (.cells #[.string xp, .int .i64 xk, .string xd] 79) = w1 := ⟨_, rfl⟩
  have hb1 : Below w.heap.size w w1 := by rw [← hw1]; exact (Below.refl _ _).alloc (Nat.le_refl _) _
  have t0 : w1.cell? ⟨w.heap.size, 0, none⟩ = some (.string xp) := by rw [← hw1]; simp
  have t1 : w1.cell? ⟨w.heap.size, 1, none⟩ = some (.int .i64 xk) := by rw [← hw1]; simp
  have t2 : w1.cell? ⟨w.heap.size, 2, none⟩ = some (.string xd) := by rw [← hw1]; simp
  have HXL := Lib.hid (fun b (hb : X b) => brx_lt h hb)
  have HB1 := Lib.hid hb1
  have HP := Lib.hid (put_any (h.below hb1) hT ⟨xp, xk, xd⟩ hd)
  unfold PutE at HP ⊢
  obtain ⟨pr, hpr⟩ : ∃ r, putF room S ⟨xp, xk, xd⟩ = r := ⟨_, rfl⟩
  rw [hpr] at HP ⊢
  obtain ⟨g, hg⟩ : ∃ g, w.heap.size = g := ⟨_, rfl⟩
  rw [hg] at t0 t1 t2
  clear h hd hpr hb1
  go_enter Tryz.func102, Tryz.ntmps102
  go_wp2_with fail
  refine HP.out.mono ?_
  rintro _ w3 ⟨err, S', rfl, h3, hs3, hc⟩
  have HE := Lib.hid (And.intro h3 (And.intro (same_trans (fun y hy => HB1.out.block y (HXL.out y hy)) hs3) hc))
  clear h3 hs3 hc HP
  go_wp2_with fail
  go_ret
  exact ⟨err, S', rfl, HE.out.1, HE.out.2.1, HE.out.2.2⟩
end Go.Proofs.YtnnaoldpacbagaaGreat.fl
end
section
namespace Go.Proofs.YtnnaoldpacbagaaGreat.fl
open Go.RowKit
open Go.Proofs.YtnnaoldpacbagaaGreat.br (BS Ino Inv abE sumF fresh)
open Go.Proofs.YtnnaoldpacbagaaGreat.cb (BrX RetW RetI No WrI MadeI)
open Go.Proofs.YtnnaoldpacbagaaGreat.bl (Pq AB U8)
open Go.Proofs.YtnnaoldpacbagaaGreat.pa (Bs)
set_option linter.unusedVariables false
set_option linter.unusedSimpArgs false

/-- Lines that are read in a row below B. -/
def LR (w : World) (B : Nat) (A : Option Addr) (l : List Ln) : Prop := ∀ (j : Nat) (x : Ln), l[j]? = some x → ∃ b off, A = some ⟨b, off, none⟩ ∧ b < B ∧
  w.cell? ⟨b, off + j * 3, none⟩ = some (.string x.path) ∧ w.cell? ⟨b, off + j * 3 + 1, none⟩ = some (.int .i64 x.kind) ∧ w.cell? ⟨b, off + j * 3 + 2, none⟩ = some (.string x.data)
theorem LR.same {w w' : World} {B : Nat} {A : Option Addr} {l : List Ln} (h : LR w B A l) (hs : ∀ b, b < B → w'.heap[b]? = w.heap[b]?) : LR w' B A l := fun j x hx => by
  obtain ⟨b, off, e, hb, c0, c1, c2⟩ := h j x hx
  exact ⟨b, off, e, hb, (World.cell?_of_block (a := ⟨b, off + j * 3, none⟩) (hs b hb)).trans c0, (World.cell?_of_block (a := ⟨b, off + j * 3 + 1, none⟩) (hs b hb)).trans c1, (World.cell?_of_block (a := ⟨b, off + j * 3 + 2, none⟩) (hs b hb)).trans c2⟩
theorem LR.up {w : World} {B B' : Nat} {A : Option Addr} {l : List Ln} (h : LR w B A l) (hb : B ≤ B') : LR w B' A l := fun j x hx => by
  obtain ⟨b, off, e, h1, c⟩ := h j x hx
  exact ⟨b, off, e, Nat.lt_of_lt_of_le h1 hb, c⟩
/-- What 'Tree' hands back. -/
def TreeE (w : World) (l : List Ln) (room : Int) (e : Ending) (w' : World) : Prop :=
  ((room < 0 ∨ 65536 < room) ∧ e = .returned (.tuple #[.pointer none, .int .i64 22]) ∧ Below w.heap.size w w') ∨
  ∃ R : Nat, room = (R : Int) ∧ R ≤ 65536 ∧
    ((∃ err : Int, err ≠ 0 ∧ treeF R fresh l = none ∧ (∀ x, l[0]? = some x → Pk fresh x err) ∧ e = .returned (.tuple #[.pointer none, .int .i64 err]) ∧ Below w.heap.size w w') ∨
     (∃ (P : Nat) (S : BS), treeF R fresh l = some S ∧ e = .returned (.tuple #[Pq P, .int .i64 0]) ∧ BrX w w' P (fun b => b < w.heap.size) S R 990))
theorem put_place {R : Nat} {S S' : BS} {x : Ln} (h : putF R S x = some S') : (placeM S x.path).2 = 0 := by
  unfold putF at h
  split at h
  · cases h
  · rename_i hn
    exact Classical.byContradiction hn
set_option maxRecDepth 100000 in
set_option maxHeartbeats 4000000 in
theorem tree_any {w : World} {B : Nat} {A : Option Addr} {l : List Ln} {c : Nat} (hl : LR w B A l) (hB : B ≤ w.heap.size) (hn : l.length ≤ 400) (hd : ∀ x ∈ l, x.data.size ≤ 1000000) (room : Int) :
    Calls Tryz.prog 43 #[.slice A l.length c, .int .i64 room] w (TreeE w l room) := by
  have HL := Lib.hid hl
  have HBB := Lib.hid hB
  have HDD := Lib.hid hd
  by_cases hr : room < 0 ∨ 65536 < room
  · have HN := Lib.hid (cb.new_no room w hr)
    have HR := Lib.hid hr
    unfold TreeE
    clear hl hr hd
    go_enter Tryz.func43, Tryz.ntmps43
    go_wp2_with fail
    refine HN.out.mono ?_
    rintro _ w1 ⟨rfl, rfl⟩
    clear HN
    go_wp2_with fail
    go_ret2
    exact .inl ⟨HR.out, rfl, Below.refl _ _⟩
  obtain ⟨R, rfl⟩ : ∃ R : Nat, room = (R : Int) := ⟨room.toNat, by omega⟩
  have hR : R ≤ 65536 := by omega
  have HN := Lib.hid (cb.x_new (w0 := w) (w := w) R hR (Below.refl _ _))
  have HD1 := Lib.hid (show ∀ (err : Int) (W : World), err ≠ 0 → treeF R fresh l = none → (∀ x, l[0]? = some x → Pk fresh x err) → Below w.heap.size w W → TreeE w l (R : Int) (.returned (.tuple #[.pointer none, .int .i64 err])) W from
    fun err W a b cc dd => .inr ⟨R, rfl, hR, .inl ⟨err, a, b, cc, rfl, dd⟩⟩)
  have HD2 := Lib.hid (show ∀ (P : Nat) (S : BS) (W : World), treeF R fresh l = some S → BrX w W P (fun b => b < w.heap.size) S R 990 → TreeE w l (R : Int) (.returned (.tuple #[Pq P, .int .i64 0])) W from
    fun P S W a b => .inr ⟨R, rfl, hR, .inr ⟨P, S, a, rfl, b⟩⟩)
  obtain ⟨m, hm⟩ : ∃ m, l.length = m := ⟨_, rfl⟩
  have HM := Lib.hid hm
  rw [hm] at hn ⊢
  have HGL := Lib.hid (show ∀ j, j < m → ∃ x, l[j]? = some x from fun j hj => ⟨l[j]'(by omega), List.getElem?_eq_getElem _⟩)
  clear hl hr hd hm
  go_enter Tryz.func43, Tryz.ntmps43
  go_wp2_with fail
  refine HN.out.mono ?_
  rintro _ w1 ⟨P, rfl, h1, hb1, hP⟩
  have H1 := Lib.hid h1
  have HS1 := Lib.hid (show dn.Same (fun b => b < w.heap.size) w w1 from fun b hb => hb1.block b hb)
  clear h1 hb1 hP HN
  go_upto_region 5 with fail
  go_loopg [16] m (fun gh s16 wr => ∃ (j : Nat) (S : BS), gh + j = m ∧ s16 = .int .i64 j ∧ Hid (treeF R fresh l = treeF R S (l.drop j)) ∧ Hid ((j = 0 → S = fresh) ∧ (0 < j → ∀ y, l[0]? = some y → (placeM fresh y.path).2 = 0)) ∧ Hid (BrX w wr P (fun b => b < w.heap.size) S R (2 * j)) ∧ Hid (dn.Same (fun b => b < w.heap.size) w wr))
  case atStart => exact ⟨0, fresh, by omega, rfl, Lib.hid rfl, Lib.hid ⟨fun _ => rfl, fun h => absurd h (Nat.lt_irrefl _)⟩, H1, HS1⟩
  case round =>
    obtain ⟨j, S, hgj, rfl, HTF, HJ0, HBR, HSA⟩ := hrel
    by_cases hj : j < m
    · obtain ⟨x, hx⟩ := HGL.out j hj
      have HXX := Lib.hid hx
      obtain ⟨b, off, hA, hbB, c0, c1, c2⟩ := HL.out j x hx
      subst hA
      have hs := HSA.out b (by have := HBB.out; omega)
      have d0 := (World.cell?_of_block (a := ⟨b, off + j * 3, none⟩) hs).trans c0
      have d1 := (World.cell?_of_block (a := ⟨b, off + j * 3 + 1, none⟩) hs).trans c1
      have d2 := (World.cell?_of_block (a := ⟨b, off + j * 3 + 2, none⟩) hs).trans c2
      obtain ⟨xp, xk, xd⟩ := x
      dsimp only at d0 d1 d2
      obtain ⟨w2, hw2⟩ : ∃ w2, wr.alloc (.cells #[.string xp, .int .i64 xk, .string xd] 79) = w2 := ⟨_, rfl⟩
      have hb2 : Below wr.heap.size wr w2 := by rw [← hw2]; exact (Below.refl _ _).alloc (Nat.le_refl _) _
      have HB2 := Lib.hid hb2
      have e0 : w2.cell? ⟨wr.heap.size, 0, none⟩ = some (.string xp) := by rw [← hw2]; simp
      have e1 : w2.cell? ⟨wr.heap.size, 1, none⟩ = some (.int .i64 xk) := by rw [← hw2]; simp
      have e2 : w2.cell? ⟨wr.heap.size, 2, none⟩ = some (.string xd) := by rw [← hw2]; simp
      have HPU := Lib.hid (putTop_any (HBR.out.below hb2) (by have := HM.out; omega) ⟨xp, xk, xd⟩ (HDD.out _ (List.mem_of_getElem? hx)))
      have HSB := Lib.hid (same_trans HSA.out (fun b hb => hb2.block b (brx_lt HBR.out hb)))
      unfold PutE at HPU
      obtain ⟨pr, hpr⟩ : ∃ r, putF R S ⟨xp, xk, xd⟩ = r := ⟨_, rfl⟩
      have HPR := Lib.hid hpr
      rw [hpr] at HPU
      clear hx hs c0 c1 c2 hb2 hpr hbB
      go_wp2_with fail
      refine HPU.out.mono ?_
      rintro _ w3 ⟨err, S', rfl, h3, hs3, hc⟩
      have H3 := Lib.hid (h3.up (by omega : 2 * j + 2 ≤ 2 * (j + 1)))
      have HS3 := Lib.hid (same_trans HSB.out hs3)
      clear h3 hs3 HPU d0 d1 d2 e0 e1 e2 hw2
      rcases hc with ⟨rfl, rfl⟩ | ⟨e9, rfl, hk9⟩
      · have HT2 := Lib.hid (HTF.out.trans (treeF_drop HXX.out HPR.out))
        have HJ2 := Lib.hid (show (j + 1 = 0 → S' = fresh) ∧ (0 < j + 1 → ∀ y, l[0]? = some y → (placeM fresh y.path).2 = 0) from ⟨fun h => absurd h (Nat.succ_ne_zero _), fun _ y hy => by
          by_cases hj0 : j = 0
          · have h1 := HXX.out
            rw [hj0, hy] at h1
            injection h1 with h1
            have h2 := HPR.out
            rw [HJ0.out.1 hj0, ← h1] at h2
            exact put_place h2
          · exact HJ0.out.2 (by omega) y hy⟩)
        go_wp2_with fail
        go_roundg (gk - 1)
        case measure => omega
        case rel => exact ⟨j + 1, S', by omega, by go_num, HT2, HJ2, H3, HS3⟩
      · have q9 : (err != 0) = true := by simpa using e9
        have HT2 := Lib.hid (HTF.out.trans (treeF_stop HXX.out HPR.out))
        have HK9 := Lib.hid hk9
        clear hk9
        go_wp2_with fail
        go_ret2
        refine HD1.out err w3 e9 HT2.out (fun y hy => ?_) H3.out.bel
        by_cases hj0 : j = 0
        · subst hj0
          have := HXX.out
          rw [hy] at this
          injection this with this
          rw [this, ← HJ0.out.1 (by first | rfl | trivial)]; exact HK9.out
        · exact fun hn => absurd (HJ0.out.2 (by omega) y hy) hn
    · obtain rfl : j = m := by omega
      have HE := Lib.hid (show treeF R fresh l = some S by rw [HTF.out, List.drop_eq_nil_of_le (by rw [HM.out]; exact Nat.le_refl _)]; rfl)
      go_wp2_with fail
      go_ret2
      exact HD2.out P S wr HE.out (HBR.out.up (by omega))
end Go.Proofs.YtnnaoldpacbagaaGreat.fl
end
