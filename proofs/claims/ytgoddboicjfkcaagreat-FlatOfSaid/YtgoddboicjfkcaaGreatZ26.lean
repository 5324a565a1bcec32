/- Part 26 of what is known of the program's functions and of the document's words: contracts, and the mathematics beneath them. -/
import Derived.Test.YtgoddboicjfkcaaGreatProg
import Derived.Test.YtgoddboicjfkcaaGreatZ25
import Derived.Test.YtgoddboicjfkcaaGreatZ20
import Derived.Deep.LoopGhost
import Derived.Maps.Own
import Derived.Maps.OwnOps
import Derived.Maps.Views
import Derived.Shelf.GgSortFunc.Whole
import Derived.Shelf.GgSortFunc.Tiny
import Derived.Deep.QuietTactic
import Derived.Lib.RowBridge
import Derived.Lib.SortBridge
import Derived.Sort.LotA
import Derived.Laws.AppendOwn
set_option linter.unusedVariables false
set_option linter.unusedSimpArgs false
set_option maxRecDepth 100000
set_option maxHeartbeats 8000000
namespace Go.Proofs.YtgoddboicjfkcaaGreat.mg
open Go.RowKit
open dn (En lget lset ldel nerr dotB Sorted lessB)
open br (BS Ino Inv fresh)
def st1 (f : Nf) (e : En) : Nf := nput f e.1 (e.2, 0)
def st2 (f : Nf) (e : En) : Nf := nput f e.1 (((f e.1).getD (0, 0)).1, e.2)
theorem lget_cons (s : ByteArray) (e : En) (l : List En) : lget s (e :: l) = if e.1 = s then some e.2 else lget s l := by
 unfold lget
 by_cases h : e.1 = s
 ·simp [List.find?, h]
 ·simp [List.find?, h]
theorem lget_ahead {e : En} {l : List En} (h : Sorted (e :: l)) : lget e.1 l = none := by
 refine dn.lget_none.2 fun x hx hxe => ?_
 have := h.cons.2 x hx
 rw [hxe, dn.less_irrefl] at this
 cases this
theorem fold1 : ∀ (l : List En) (g : Nf) (s : ByteArray), Sorted l → l.foldl st1 g s = match lget s l with | some v => some (v, 0) | none => g s
 | [], g, s, _ => rfl
 | e :: l, g, s, h => by
  rw [List.foldl_cons, fold1 l _ s h.cons.1, lget_cons]
  by_cases he : e.1 = s
  ·subst he
   rw [if_pos rfl, lget_ahead h]
   show nput g e.1 (e.2, 0) e.1 = _
   unfold nput; rw [if_pos rfl]
  ·rw [if_neg he]
   cases lget s l with
   | some v => rfl
   | none => show nput g e.1 (e.2, 0) s = _; unfold nput; rw [if_neg (fun h => he h.symm)]
theorem fold2 : ∀ (l : List En) (g : Nf) (s : ByteArray), Sorted l → l.foldl st2 g s = match lget s l with | some v => some (((g s).getD (0, 0)).1, v) | none => g s
 | [], g, s, _ => rfl
 | e :: l, g, s, h => by
  rw [List.foldl_cons, fold2 l _ s h.cons.1, lget_cons]
  by_cases he : e.1 = s
  ·subst he
   rw [if_pos rfl, lget_ahead h]
   show nput g e.1 _ e.1 = _
   unfold nput; rw [if_pos rfl]
  ·rw [if_neg he]
   have : st2 g e s = g s := by show nput g e.1 _ s = _; unfold nput; rw [if_neg (fun h => he h.symm)]
   rw [this]
theorem fold_take {α β : Type} (f : β → α → β) (b : β) (l : List α) (k : Nat) (x : α) (h : l[k]? = some x) : (l.take (k + 1)).foldl f b = f ((l.take k).foldl f b) x := by
 have hk : k < l.length := (List.getElem?_eq_some_iff.1 h).1
 have hx : l[k] = x := (List.getElem?_eq_some_iff.1 h).2
 rw [List.take_succ_eq_append_getElem hk, List.foldl_append, hx]; rfl
def pairF (U L : BS) (n : Nd) : Nf := (L.all (belV U n)).1.foldl st2 ((U.all n.1).1.foldl st1 (fun _ => none))
section
variable {S U L : BS} {room : Nat}
theorem all_sorted (hI : Inv S room) (d : Int) : Sorted (S.all d).1 := by
 unfold BS.all
 split
 ·exact List.Pairwise.nil
 ·exact hI.sorted _
theorem all_get (S : BS) (d : Int) (s : ByteArray) : (S.get d s).1 = (lget s (S.all d).1).getD 0 := by
 unfold BS.get BS.all
 by_cases h : S.dirE d false ≠ 0
 ·rw [if_pos h, if_pos h]; rfl
 ·rw [if_neg h, if_neg h]
  cases lget s (S.at d).dir with
  | none => rfl
  | some v => rfl
theorem all_len (hI : Inv S room) (d : Int) : (S.all d).1.length ≤ 4000 := by
 unfold BS.all
 split
 ·exact Nat.zero_le _
 ·exact hI.dirLen _
theorem all_size (hI : Inv S room) (d : Int) : ∀ x, x ∈ (S.all d).1 → x.1.size ≤ 60 := fun x hx => by
 unfold BS.all at hx
 split at hx
 ·cases hx
 ·exact (cb.nerr_len (hI.good _ x hx).1).2
theorem pairF_is {r1 r2 : Nat} (hU : Inv U r1) (hL : Inv L r2) (n : Nd) (s : ByteArray) : (pairF U L n s = none ∧ pairV U L n s = (0, 0)) ∨ pairF U L n s = some (pairV U L n s) := by
 unfold pairF pairV
 rw [fold2 _ _ _ (all_sorted hL _), fold1 _ _ _ (all_sorted hU _), all_get, all_get]
 cases lget s (L.all (belV U n)).1 with
 | some v =>
  right
  cases lget s (U.all n.1).1 <;> rfl
 | none =>
  cases lget s (U.all n.1).1 with
  | some v => right; rfl
  | none => left; exact ⟨rfl, rfl⟩
theorem seen_names {r1 r2 : Nat} (hU : Inv U r1) (hL : Inv L r2) (n : Nd) (s : ByteArray) (hl : lstV U L n = 0) : (getV U L n s).2 = 0 ↔ ∃ p, pairF U L n s = some p ∧ seenV U L p ≠ (0, 0) := by
 unfold getV
 rw [if_neg (by rw [hl]; decide)]
 have h0 : seenV U L (0, 0) = (0, 0) := by rw [seen_none (kind_zero U), kind_zero L]; rfl
 rcases pairF_is hU hL n s with ⟨h1, h2⟩ | h1
 ·rw [h1, h2, h0, if_pos rfl]
  exact ⟨fun e => absurd e (by decide), fun ⟨p, e, _⟩ => nomatch e⟩
 ·rw [h1]
  by_cases h3 : seenV U L (pairV U L n s) = (0, 0)
  ·rw [if_pos h3]
   exact ⟨fun e => absurd e (by decide), fun ⟨p, e, e2⟩ => by injection e with e; rw [← e] at e2; exact absurd h3 e2⟩
  ·rw [if_neg h3]
   exact ⟨fun _ => ⟨_, rfl, h3⟩, fun _ => rfl⟩
end
end Go.Proofs.YtgoddboicjfkcaaGreat.mg
namespace Go.Proofs.YtgoddboicjfkcaaGreat.mg
open Go.RowKit
open dn (En lget lset ldel nerr dotB Sorted lessB ERow Sl Ao)
open br (BS Ino Inv fresh)
open cb (BrX RetW RetI No)
open bl (Pq Only)
def SE (w : World) (M : Nat) (o : Option Nat) (L : List En) : Prop := ∀ k x, L[k]? = some x → ∃ G, o = some G ∧ M < G ∧ G < w.heap.size ∧ w.cell? ⟨G, k * 2, none⟩ = some (.string x.1) ∧ w.cell? ⟨G, k * 2 + 1, none⟩ = some (.int .i64 x.2)
theorem SE.of {w : World} {M lo c : Nat} {o : Option Nat} {L : List En} (h : Sl w lo o c L) (hM : M < lo) : SE w M o L := fun k x hk => by
 cases o with
 | none => obtain ⟨rfl, _⟩ := h; cases hk
 | some G =>
  obtain ⟨h1, h2⟩ := h
  exact ⟨G, rfl, by omega, h2.lt, (h2.at_ hk).1, (h2.at_ hk).2⟩
theorem SE.only {w w' : World} {M : Nat} {o : Option Nat} {L : List En} (h : SE w M o L) (ho : Only (fun b => b = M) w w') : SE w' M o L := fun k x hk => by
 obtain ⟨G, e, h1, h2, h3, h4⟩ := h k x hk
 have hb := ho.block G h2 (by omega)
 exact ⟨G, e, h1, Nat.lt_of_lt_of_le h2 ho.size, (World.cell?_of_block (a := ⟨G, k * 2, none⟩) hb).trans h3, (World.cell?_of_block (a := ⟨G, k * 2 + 1, none⟩) hb).trans h4⟩
theorem only_grown {w w' : World} {M : Nat} (h : w.grownBy w' (some M)) : Only (fun b => b = M) w w' := ⟨h.os, h.tape, h.output, h.size, fun k hk hF => h.block k hk (fun e => hF (by cases e; rfl))⟩
theorem only_bel {w w' : World} {F : Nat → Prop} (h : Below w.heap.size w w') : Only F w w' := ⟨h.os, h.tape, h.output, h.size, fun k hk _ => h.block k hk⟩
theorem bel_only {w0 w w' : World} {M : Nat} (hb : Below w0.heap.size w0 w) (h : Only (fun b => b = M) w w') (hM : w0.heap.size ≤ M) : Below w0.heap.size w0 w' :=
 hb.trans ⟨h.os, h.tape, h.output, h.size, fun k hk => h.block k (Nat.lt_of_lt_of_le hk hb.size) fun e => by omega⟩
theorem Vx.allU {w : World} {V P1 P2 : Nat} {u l : Int} {U L : BS} (h : Vx w V P1 P2 u l U L) (i : Int) : Calls Tryz.prog 53 #[Pq P1, .int .i64 i] w (fun e w' => ∃ o c, e = .returned (.tuple #[.slice (dn.Ao o) (U.all i).1.length c, .int .i64 (U.all i).2]) ∧ (U.all i).1.length ≤ c ∧ c ≤ maxLen ∧ dn.Sl w' w.heap.size o c (U.all i).1 ∧ Below w.heap.size w w') := by obtain ⟨_, _, _, k⟩ := h.b1; exact cb.x_all k i
theorem Vx.allL {w : World} {V P1 P2 : Nat} {u l : Int} {U L : BS} (h : Vx w V P1 P2 u l U L) (i : Int) : Calls Tryz.prog 53 #[Pq P2, .int .i64 i] w (fun e w' => ∃ o c, e = .returned (.tuple #[.slice (dn.Ao o) (L.all i).1.length c, .int .i64 (L.all i).2]) ∧ (L.all i).1.length ≤ c ∧ c ≤ maxLen ∧ dn.Sl w' w.heap.size o c (L.all i).1 ∧ Below w.heap.size w w') := by obtain ⟨_, _, _, k⟩ := h.b2; exact cb.x_all k i
def PairsE (w : World) (f : Nf) (e : Ending) (w' : World) : Prop := ∃ M S, e = .returned (.map (some M)) ∧ MapN w' M S f ∧ w.heap.size ≤ M ∧ Below w.heap.size w w'
theorem pairs_any {w : World} {V P1 P2 : Nat} {u l : Int} {U L : BS} {r1 r2 : Nat} (h : Vx w V P1 P2 u l U L) (hU : Inv U r1) (hL : Inv L r2) (n : Nd) : Calls Tryz.prog 78 #[Pq V, Nv n] w (PairsE w (pairF U L n)) := by
 obtain ⟨n1, n2⟩ := n
 obtain ⟨w2, hw2⟩ : ∃ w2, (w.alloc (.cells #[.int .i64 n1, .int .i64 n2] 24)).alloc (.map #[] 0) = w2 := ⟨_, rfl⟩
 have hb2 : Below w.heap.size w w2 := by rw [← hw2]; exact bel_step (bel_alloc _ _) (bel_alloc _ _)
 have hn2 : Nb w2 w.heap.size (n1, n2) := by rw [← hw2]; exact (Nb.new w n1 n2).below (bel_alloc _ _)
 have hm2 : MapN w2 (w.heap.size + 1) 0 (fun _ => none) := by rw [← hw2]; have := MapN.made (w.alloc (.cells #[.int .i64 n1, .int .i64 n2] 24)); rwa [World.size_alloc] at this
 have HB := Lib.hid hb2
 have HN := Lib.hid hn2
 have HM := Lib.hid hm2
 have HVX := Lib.hid (fun W (hb : Below w.heap.size w W) => h.below hb)
 have HSF := Lib.hid (show ∀ W, Below w.heap.size w W → W.cell? ⟨V, 0, none⟩ = some (Pq P1) ∧ W.cell? ⟨V, 1, none⟩ = some (Pq P2) from fun W hb => ⟨(h.below hb).c0, (h.below hb).c1⟩)
 have HAU := Lib.hid (fun W (hb : Below w.heap.size w W) => (h.below hb).allU n1)
 have HAL := Lib.hid (fun W (hb : Below w.heap.size w W) => (h.below hb).allL (belV U (n1, n2)))
 have HFF := Lib.hid (show pairF U L (n1, n2) = (L.all (belV U (n1, n2))).1.foldl st2 ((U.all n1).1.foldl st1 (fun _ => none)) from rfl)
 have HLU := Lib.hid (And.intro (all_len hU n1) (all_size hU n1))
 have HLL := Lib.hid (And.intro (all_len hL (belV U (n1, n2))) (all_size hL (belV U (n1, n2))))
 have HBV := Lib.hid (fun W (hb : Below w.heap.size w W) => below_any (h.below hb) (n1, n2))
 unfold RetI at HBV
 generalize pairF U L (n1, n2) = pf at *
 generalize belV U (n1, n2) = be at *
 generalize (U.all n1).1 = lu at *
 generalize (U.all n1).2 = eu at *
 generalize (L.all be).1 = ll at *
 generalize (L.all be).2 = el at *
 clear h hU hL hb2 hn2 hm2
 obtain ⟨g, hg⟩ : ∃ g, w.heap.size = g := ⟨_, rfl⟩
 have HGB := Lib.hid hg
 rw [hg] at HN HM
 have hmk := @run_makeMap Tryz.prog 119 (w.alloc (.cells #[.int .i64 n1, .int .i64 n2] 24))
 obtain ⟨k0, k1⟩ := HSF.out _ HB.out
 obtain ⟨t0, t1⟩ := HN.out
 dsimp only at t0 t1
 unfold PairsE
 go_enter Tryz.func78, Tryz.ntmps78
 go_wp2_with fail
 go_region_held3 (fun w' => w'.cell? ⟨V, 0, none⟩ = some (Pq P1) ∧ w'.cell? ⟨g, 0, none⟩ = some (.int .i64 n1))
  (first | exact ⟨k0, t0⟩ | exact S8 | assumption | go_keep)
  (first | (go_at_call 53; ((with_reducible refine (HAU.out _ HB.out.drew).mono ?_); rintro _ w8 ⟨o1, c1, rfl, hlc1, hcm1, hsl1, hb8⟩; have HS8 := Lib.hid ((Below.refl w2.heap.size w2).drew.trans hb8); have HB8 := Lib.hid (bel_step HB.out HS8.out); have HN8 := Lib.hid (HN.out.below HS8.out); have HM8 := Lib.hid (HM.out.below HS8.out); have HE8 := Lib.hid (SE.of hsl1 (show g + 1 < _ from HM.out.lt)); have S8 := And.intro (HSF.out _ HB8.out).1 HN8.out.c0)))
 all_goals
  clear k0 k1 t0 t1 S8 hb8 hsl1 hw2 hmk HS8
  have HMg := Lib.hid (show w.heap.size ≤ g + 1 by have := HGB.out; omega)
  have HL0 := Lib.hid (show 0 ≤ 4000 by omega)
  go_wp2_with fail
  go_loopg [27] lu.length (fun g' sk wr => ∃ k : Nat, g' + k = lu.length ∧ sk = .int .i64 k ∧ Hid (MapN wr (g + 1) (0 + k) ((lu.take k).foldl st1 (fun _ => none))) ∧ Hid (Only (fun b => b = (g + 1)) w8 wr))
  case atStart => exact ⟨0, by omega, rfl, HM8, Lib.hid (Only.refl _ _)⟩
  case round =>
   clear HM8
   obtain ⟨k, hgk, rfl, HMk, HO⟩ := hrel
   by_cases hgo : k < lu.length
   ·have hx : lu[k]? = some lu[k] := List.getElem?_eq_getElem hgo
    have hft := fold_take st1 (fun _ => none) lu k _ hx
    have hxs := HLU.out.2 _ (List.getElem_mem hgo)
    obtain ⟨Fk, hFk⟩ : ∃ F, (lu.take k).foldl st1 (fun _ => none) = F := ⟨_, rfl⟩
    rw [hFk] at hft HMk
    clear hFk
    obtain ⟨G, hGe, hMG, hGl, f0, f1⟩ := (HE8.out.only HO.out) k _ hx
    generalize lu[k] = x at *
    obtain ⟨xs, xv⟩ := x
    dsimp only at f0 f1 hxs
    have hxm : xs.size ≤ maxLen := by unfold maxLen; omega
    obtain ⟨w9, hw9⟩ : ∃ w9, wr.alloc (.cells #[.string xs, .int .i64 xv] 125) = w9 := ⟨_, rfl⟩
    have hb9 : Below wr.heap.size wr w9 := by rw [← hw9]; exact bel_alloc _ _
    have b0 : w9.cell? ⟨wr.heap.size, 0, none⟩ = some (.string xs) := by rw [← hw9]; simp
    have b1 : w9.cell? ⟨wr.heap.size, 1, none⟩ = some (.int .i64 xv) := by rw [← hw9]; simp
    obtain ⟨gb, hgb⟩ : ∃ gb, wr.heap.size = gb := ⟨_, rfl⟩
    have HM9 := Lib.hid (HMk.out.below hb9)
    have HO9 := Lib.hid (HO.out.trans (only_bel hb9))
    rw [hgb] at b0 b1
    have hkl : 0 + k ≤ 1000000 := by have := HLU.out.1; have := HL0.out; omega
    obtain ⟨w10, hrun, hm10, hg10⟩ := HM9.out.put hkl hxm (xv, 0)
    have HM10 := Lib.hid (show MapN w10 (g + 1) (0 + (k + 1)) ((lu.take (k + 1)).foldl st1 (fun _ => none)) by rw [hft]; exact hm10)
    have HO10 := Lib.hid (HO9.out.trans (only_grown hg10))
    unfold Nv at hrun
    clear hft hxs hMG hm10 hg10 HMk HO HM9 HO9 hb9 hxm 
    subst hGe
    go_wp2_with fail
    go_roundg (lu.length - (k + 1))
    case measure => omega
    case rel => exact ⟨k + 1, by omega, by go_num, HM10, HO10⟩
   ·have hk : k = lu.length := by omega
    subst hk
    have HM1 := Lib.hid (show MapN wr (g + 1) lu.length (lu.foldl st1 (fun _ => none)) by have := HMk.out; rwa [List.take_length, Nat.zero_add] at this)
    have HB1 := Lib.hid (bel_only HB8.out HO.out HMg.out)
    have HN1 := Lib.hid (show Nb wr g (n1, n2) from HN8.out.same (HO.out.block g HN8.out.lt (by omega)))
    clear HMk HO HB8 HN8 HAU HB HN HM
    obtain ⟨k0, k1⟩ := HSF.out _ HB1.out
    obtain ⟨t0, t1⟩ := HN1.out
    dsimp only at t0 t1
    go_wp2_with fail
    go_region_held3 (fun w' => w'.cell? ⟨V, 1, none⟩ = some (Pq P2) ∧ w'.cell? ⟨g, 0, none⟩ = some (.int .i64 n1) ∧ w'.cell? ⟨g, 1, none⟩ = some (.int .i64 n2))
     (first | exact ⟨k1, t0, t1⟩ | exact S8 | exact S9 | assumption | go_keep)
     (first | (go_at_call 73; ((with_reducible refine (HBV.out _ HB1.out.drew).mono ?_); rintro _ w8 ⟨rfl, hb8⟩; have HS8 := Lib.hid ((Below.refl wr.heap.size wr).drew.trans hb8); have HB8 := Lib.hid (bel_step HB1.out HS8.out); have HN8 := Lib.hid (HN1.out.below HS8.out); have HM8 := Lib.hid (HM1.out.below HS8.out); have S8 := And.intro (HSF.out _ HB8.out).2 (And.intro HN8.out.c0 HN8.out.c1))) | (go_at_call 53; ((with_reducible refine (HAL.out _ HB8.out).mono ?_); rintro _ wa ⟨o2, c2, rfl, hlc2, hcm2, hsl2, hba⟩; have HBa := Lib.hid (bel_step HB8.out hba); have HNa := Lib.hid (HN8.out.below hba); have HMa := Lib.hid (HM8.out.below hba); have HEa := Lib.hid (SE.of hsl2 (show (g + 1) < _ from HM8.out.lt)); have S9 := And.intro (HSF.out _ HBa.out).2 (And.intro HNa.out.c0 HNa.out.c1))))
    all_goals
     clear k0 k1 t0 t1 S8 S9 hb8 HS8 HB8 HN8 HM8 HB1 HN1 HM1 hba hsl2 HBV HAL HSF HVX
     have HBASE := Lib.hid (show lu.foldl st1 (fun _ => none) = lu.foldl st1 (fun _ => none) from rfl)
     generalize hbase : lu.foldl st1 (fun _ => none) = base at HMa HBASE HFF
     have HL0 := Lib.hid (show lu.length ≤ 4000 from HLU.out.1)
     go_wp2_with fail
     go_loopg [51] ll.length (fun g' sk wr => ∃ k : Nat, g' + k = ll.length ∧ sk = .int .i64 k ∧ Hid (MapN wr (g + 1) (lu.length + k) ((ll.take k).foldl st2 base)) ∧ Hid (Only (fun b => b = (g + 1)) wa wr))
     case atStart => exact ⟨0, by omega, rfl, HMa, Lib.hid (Only.refl _ _)⟩
     case round =>
      clear HMa
      obtain ⟨k, hgk, rfl, HMk, HO⟩ := hrel
      by_cases hgo : k < ll.length
      ·have hx : ll[k]? = some ll[k] := List.getElem?_eq_getElem hgo
       have hft := fold_take st2 base ll k _ hx
       have hxs := HLL.out.2 _ (List.getElem_mem hgo)
       obtain ⟨Fk, hFk⟩ : ∃ F, (ll.take k).foldl st2 base = F := ⟨_, rfl⟩
       rw [hFk] at hft HMk
       clear hFk
       obtain ⟨G, hGe, hMG, hGl, f0, f1⟩ := (HEa.out.only HO.out) k _ hx
       generalize ll[k] = x at *
       obtain ⟨xs, xv⟩ := x
       dsimp only at f0 f1 hxs
       have hxm : xs.size ≤ maxLen := by unfold maxLen; omega
       obtain ⟨w9, hw9⟩ : ∃ w9, wr.alloc (.cells #[.string xs, .int .i64 xv] 125) = w9 := ⟨_, rfl⟩
       have hb9 : Below wr.heap.size wr w9 := by rw [← hw9]; exact bel_alloc _ _
       have b0 : w9.cell? ⟨wr.heap.size, 0, none⟩ = some (.string xs) := by rw [← hw9]; simp
       have b1 : w9.cell? ⟨wr.heap.size, 1, none⟩ = some (.int .i64 xv) := by rw [← hw9]; simp
       obtain ⟨gb, hgb⟩ : ∃ gb, wr.heap.size = gb := ⟨_, rfl⟩
       have HM9 := Lib.hid (HMk.out.below hb9)
       have HO9 := Lib.hid (HO.out.trans (only_bel hb9))
       rw [hgb] at b0 b1
       have hkl : lu.length + k ≤ 1000000 := by have := HLL.out.1; have := HL0.out; omega
       obtain ⟨pr, hpr⟩ : ∃ pr, ((Fk xs).getD (0, 0)) = pr := ⟨_, rfl⟩
       have hlk := HM9.out.look hxm
       rw [hpr] at hlk
       obtain ⟨pr1, pr2⟩ := pr
       have hfe : ∀ W, (Instr.field 24 (.agg #[.int .i64 pr1, .int .i64 pr2]) 0).run Tryz.prog W = .ok (.int .i64 pr1) W := fun _ => rfl
       obtain ⟨w10, hrun, hm10, hg10⟩ := HM9.out.put hkl hxm (pr1, xv)
       have HM10 := Lib.hid (show MapN w10 (g + 1) (lu.length + (k + 1)) ((ll.take (k + 1)).foldl st2 base) by rw [hft]; show MapN w10 (g + 1) _ (nput Fk xs (((Fk xs).getD (0, 0)).1, xv)); rw [hpr]; exact hm10)
       have HO10 := Lib.hid (HO9.out.trans (only_grown hg10))
       dsimp only [Nv] at hrun hlk
       clear hft hxs hMG hm10 hg10 HMk HO HM9 HO9 hb9 hxm hpr
       subst hGe
       go_wp2_with fail
       go_roundg (ll.length - (k + 1))
       case measure => omega
       case rel => exact ⟨k + 1, by omega, by go_num, HM10, HO10⟩
      ·have hk : k = ll.length := by omega
       subst hk
       have HMf := Lib.hid (show MapN wr (g + 1) (lu.length + ll.length) pf by rw [HFF.out]; have := HMk.out; rwa [List.take_length] at this)
       have HBf := Lib.hid (bel_only HBa.out HO.out HMg.out)
       clear HMk HO
       go_wp2_with fail
       go_ret
       exact ⟨g + 1, _, rfl, HMf.out, HMg.out, HBf.out⟩
end Go.Proofs.YtgoddboicjfkcaaGreat.mg
namespace Go.Proofs.YtgoddboicjfkcaaGreat.mg
open Go.Shelf Go.RowKit Go.Lib Go.Sort
open dn (lessB)
set_option maxRecDepth 100000
def sl6_ren : Go.Shelf.Ren := ⟨fun | 6 => 79 | 10 => 148 | 11 => 149 | 12 => 150 | 13 => 151 | 14 => 152 | 24 => 194 | 25 => 195 | 26 => 196 | 27 => 197 | 28 => 198 | 29 => 199 | 30 => 200 | 31 => 201 | 32 => 202 | 33 => 203 | 34 => 221 | 35 => 222 | 36 => 223 | 37 => 224 | 38 => 225 | 39 => 235 | n => n, fun | 20 => 20 | 26 => 123 | 35 => 208 | 0 => 0 | 37 => 210 | 3 => 3 | 41 => 213 | 44 => 216 | 49 => 265 | 51 => 204 | 4 => 4 | 54 => 269 | 53 => 268 | 58 => 236 | 5 => 5 | 9 => 9 | 60 => 301 | 64 => 305 | 66 => 318 | 67 => 319 | 17 => 17 | 32 => 205 | 33 => 206 | 82 => 339 | 12 => 12 | 75 => 333 | 76 => 334 | 77 => 335 | 78 => 253 | 79 => 336 | 80 => 337 | n => n, fun | n => n⟩
theorem sl6 : Go.Proofs.LaysGg.n6 Tryz.prog sl6_ren := {
 mixed := by kernel_rfl
 f6 := Tryz.func79.trans (congrArg some (by kernel_rfl))
 f10 := Tryz.func148.trans (congrArg some (by kernel_rfl))
 f11 := Tryz.func149.trans (congrArg some (by kernel_rfl))
 f12 := Tryz.func150.trans (congrArg some (by kernel_rfl))
 f13 := Tryz.func151.trans (congrArg some (by kernel_rfl))
 f14 := Tryz.func152.trans (congrArg some (by kernel_rfl))
 f24 := Tryz.func194.trans (congrArg some (by kernel_rfl))
 f25 := Tryz.func195.trans (congrArg some (by kernel_rfl))
 f26 := Tryz.func196.trans (congrArg some (by kernel_rfl))
 f27 := Tryz.func197.trans (congrArg some (by kernel_rfl))
 f28 := Tryz.func198.trans (congrArg some (by kernel_rfl))
 f29 := Tryz.func199.trans (congrArg some (by kernel_rfl))
 f30 := Tryz.func200.trans (congrArg some (by kernel_rfl))
 f31 := Tryz.func201.trans (congrArg some (by kernel_rfl))
 f32 := Tryz.func202.trans (congrArg some (by kernel_rfl))
 f33 := Tryz.func203.trans (congrArg some (by kernel_rfl))
 f34 := Tryz.func221.trans (congrArg some (by kernel_rfl))
 f35 := Tryz.func222.trans (congrArg some (by kernel_rfl))
 f36 := Tryz.func223.trans (congrArg some (by kernel_rfl))
 f37 := Tryz.func224.trans (congrArg some (by kernel_rfl))
 f38 := Tryz.func225.trans (congrArg some (by kernel_rfl))
 f39 := Tryz.func235.trans (congrArg some (by kernel_rfl))
 t0 := Tryz.underlying0
 a0 := Tryz.isAgg0
 z0 := Tryz.sizeOf0
 v0 := Tryz.zeroValue0
 i0 := by kernel_rfl
 t3 := Tryz.underlying3
 a3 := Tryz.isAgg3
 z3 := Tryz.sizeOf3
 v3 := Tryz.zeroValue3
 i3 := by kernel_rfl
 t4 := Tryz.underlying4
 a4 := Tryz.isAgg4
 z4 := Tryz.sizeOf4
 v4 := Tryz.zeroValue4
 i4 := by kernel_rfl
 t5 := Tryz.underlying5
 a5 := Tryz.isAgg5
 z5 := Tryz.sizeOf5
 v5 := Tryz.zeroValue5
 i5 := by kernel_rfl
 t9 := Tryz.underlying9
 a9 := Tryz.isAgg9
 z9 := Tryz.sizeOf9
 v9 := Tryz.zeroValue9
 i9 := by kernel_rfl
 t12 := Tryz.underlying12
 a12 := Tryz.isAgg12
 z12 := Tryz.sizeOf12
 v12 := Tryz.zeroValue12
 i12 := by kernel_rfl
 t17 := Tryz.underlying17
 a17 := Tryz.isAgg17
 z17 := Tryz.sizeOf17
 v17 := Tryz.zeroValue17
 i17 := by kernel_rfl
 t20 := Tryz.underlying20
 a20 := Tryz.isAgg20
 z20 := Tryz.sizeOf20
 v20 := Tryz.zeroValue20
 i20 := by kernel_rfl
 t26 := Tryz.underlying123
 a26 := Tryz.isAgg123
 z26 := Tryz.sizeOf123
 v26 := Tryz.zeroValue123
 i26 := by kernel_rfl
 t32 := Tryz.underlying205
 a32 := Tryz.isAgg205
 z32 := Tryz.sizeOf205
 v32 := Tryz.zeroValue205
 i32 := by kernel_rfl
 t33 := Tryz.underlying206
 a33 := Tryz.isAgg206
 z33 := Tryz.sizeOf206
 v33 := Tryz.zeroValue206
 i33 := by kernel_rfl
 t35 := Tryz.underlying208
 a35 := Tryz.isAgg208
 z35 := Tryz.sizeOf208
 v35 := Tryz.zeroValue208
 i35 := by kernel_rfl
 t37 := Tryz.underlying210
 a37 := Tryz.isAgg210
 z37 := Tryz.sizeOf210
 v37 := Tryz.zeroValue210
 i37 := by kernel_rfl
 t41 := Tryz.underlying213
 a41 := Tryz.isAgg213
 z41 := Tryz.sizeOf213
 v41 := Tryz.zeroValue213
 i41 := by kernel_rfl
 t44 := Tryz.underlying216
 a44 := Tryz.isAgg216
 z44 := Tryz.sizeOf216
 v44 := Tryz.zeroValue216
 i44 := by kernel_rfl
 t49 := Tryz.underlying265
 a49 := Tryz.isAgg265
 z49 := Tryz.sizeOf265
 v49 := Tryz.zeroValue265
 i49 := by kernel_rfl
 t51 := Tryz.underlying204
 a51 := Tryz.isAgg204
 z51 := Tryz.sizeOf204
 v51 := Tryz.zeroValue204
 i51 := by kernel_rfl
 t53 := Tryz.underlying268
 a53 := Tryz.isAgg268
 z53 := Tryz.sizeOf268
 v53 := Tryz.zeroValue268
 i53 := by kernel_rfl
 t54 := Tryz.underlying269
 a54 := Tryz.isAgg269
 z54 := Tryz.sizeOf269
 v54 := Tryz.zeroValue269
 i54 := by kernel_rfl
 t58 := Tryz.underlying236
 a58 := Tryz.isAgg236
 z58 := Tryz.sizeOf236
 v58 := Tryz.zeroValue236
 i58 := by kernel_rfl
 t60 := Tryz.underlying301
 a60 := Tryz.isAgg301
 z60 := Tryz.sizeOf301
 v60 := Tryz.zeroValue301
 i60 := by kernel_rfl
 t64 := Tryz.underlying305
 a64 := Tryz.isAgg305
 z64 := Tryz.sizeOf305
 v64 := Tryz.zeroValue305
 i64 := by kernel_rfl
 t66 := Tryz.underlying318
 a66 := Tryz.isAgg318
 z66 := Tryz.sizeOf318
 v66 := Tryz.zeroValue318
 i66 := by kernel_rfl
 t67 := Tryz.underlying319
 a67 := Tryz.isAgg319
 z67 := Tryz.sizeOf319
 v67 := Tryz.zeroValue319
 i67 := by kernel_rfl
 t75 := Tryz.underlying333
 a75 := Tryz.isAgg333
 z75 := Tryz.sizeOf333
 v75 := Tryz.zeroValue333
 i75 := by kernel_rfl
 t76 := Tryz.underlying334
 a76 := Tryz.isAgg334
 z76 := Tryz.sizeOf334
 v76 := Tryz.zeroValue334
 i76 := by kernel_rfl
 t77 := Tryz.underlying335
 a77 := Tryz.isAgg335
 z77 := Tryz.sizeOf335
 v77 := Tryz.zeroValue335
 i77 := by kernel_rfl
 t78 := Tryz.underlying253
 a78 := Tryz.isAgg253
 z78 := Tryz.sizeOf253
 v78 := Tryz.zeroValue253
 i78 := by kernel_rfl
 t79 := Tryz.underlying336
 a79 := Tryz.isAgg336
 z79 := Tryz.sizeOf336
 v79 := Tryz.zeroValue336
 i79 := by kernel_rfl
 t80 := Tryz.underlying337
 a80 := Tryz.isAgg337
 z80 := Tryz.sizeOf337
 v80 := Tryz.zeroValue337
 i80 := by kernel_rfl
 t82 := Tryz.underlying339
 a82 := Tryz.isAgg339
 z82 := Tryz.sizeOf339
 v82 := Tryz.zeroValue339
 i82 := by kernel_rfl }
noncomputable def siT : TypeInfo := (Tryz.prog.info? 43).get (by kernel_rfl)
noncomputable def siE : TypeInfo := (Tryz.prog.info? 9).get (by kernel_rfl)
theorem siK (n : Nat) (h2 : 2 ≤ n) : Lib.swapperK n siE 24 = 4 := by
 have a : siE.hasPointers = true := by kernel_rfl
 have b : siE.bytes = 16 := by kernel_rfl
 have c : (n == 0) = false := by simp; omega
 have d : (n == 1) = false := by simp; omega
 simp [Lib.swapperK, a, b, c, d]
theorem swo_less : SWO lessB where
 irrefl := dn.less_irrefl
 trans := fun x y z h1 h2 => dn.less_trans h1 h2
 ntrans := fun x y z h1 h2 => by
  by_cases e1 : x = y
  ·rw [e1]; exact h2
  ·by_cases e2 : y = z
   ·rw [← e2]; exact h1
   ·exact dn.less_asymm (dn.less_trans (dn.less_of e2 h2) (dn.less_of e1 h1))
theorem less_names (blk off c Bs size : Nat) (W : World) (G : Nat → ByteArray) (hs : W.cell? ⟨Bs, 0, none⟩ = some (.slice (some ⟨blk, off, none⟩) size c))
  (hc : ∀ t, t < size → W.cell? ⟨blk, off + t, none⟩ = some (.string (G t))) (i j : Nat) (hi : i < size) (hj : j < size) :
  Calls Tryz.prog 80 #[.int .i64 i, .int .i64 j, .pointer (some ⟨Bs, 0, none⟩)] W fun e w' => e = .returned (.bool (lessB (G i) (G j))) ∧ ∃ q, w' = W.drewN q := by
 have ci := hc i hi
 have cj := hc j hj
 have hC := Lib.hid (fun W => dn.less_any (G i) (G j) W)
 clear hc
 generalize lessB (G i) (G j) = r at *
 generalize G i = x at *
 generalize G j = y at *
 go_enter Tryz.func80, Tryz.ntmps80
 go_wp2_with fail
 go_quiet ((go_at_call 81; with_reducible exact Calls.quiet_of_same (hC.out _)))
 go_wp2_with fail
 go_ret
 exact ⟨rfl, nq, rfl⟩
theorem sort_more (blk off c Bs : Nat) (d : Array ByteArray) (h2 : 2 ≤ d.size) (h12 : d.size < 4611686018427387904) (w : World) (hB : w.cell? ⟨Bs, 0, none⟩ = some (.slice (some ⟨blk, off, none⟩) d.size c)) (hne : Bs ≠ blk) (hH : Holds Value.string w blk off d) (hblk : blk < w.heap.size) :
  Calls Tryz.prog 79 #[.iface 43 (.slice (some ⟨blk, off, none⟩) d.size c), .func (.func 80) #[] #[.pointer (some ⟨Bs, 0, none⟩)]] w fun e w' =>
   e = .returned (.tuple #[]) ∧ ∃ d' n os, PermIn 0 d.size d d' ∧ SortedIn lessB 0 d.size d' ∧ w' = grow (putRow Value.string (Sort.ahead w n) blk off d') os := by
 have hBs : Bs < w.heap.size := World.block_lt_of_cell? _ _ hB
 have hless : LessReads Tryz.prog 80 #[.pointer (some ⟨Bs, 0, none⟩)] Value.string lessB blk off d.size w := by
  intro m os dk hs i j hi hj
  have e : sortWorld Value.string w blk off m dk os = putRow Value.string (grow (Sort.ahead w m) os) blk off dk := by
   unfold sortWorld; rw [putRow_grow _ (Sort.ahead w m) _ blk off _ hblk]
  have hHg : Holds Value.string (grow (Sort.ahead w m) os) blk off d := holds_grow _ _ _ blk off d hblk (holds_ahead _ _ _ _ _ _ hH)
  refine less_names blk off c Bs d.size _ (fun t => dk[t]!) ?_ (fun t ht => ?_) i j hi hj
  ·rw [e, cell?_putRow_other _ _ blk off dk _ (Or.inl hne), cell?_grow _ _ _ (show Bs < w.heap.size from hBs)]
   exact hB
  ·rw [e]; exact cell?_putRow _ _ blk off d dk hHg hs t (by omega)
 exact Any.sort_Slice_sorted sl6 43 9 siT siE (by kernel_rfl) (by kernel_rfl) (by kernel_rfl) (by kernel_rfl) 24 (fun _ => by kernel_rfl) (by kernel_rfl) (fun _ => by kernel_rfl) Value.string (fun _ => rfl) lessB swo_less 80 _
  (enters_of Tryz.func80 (by kernel_rfl) rfl) blk off c d h2 h12 188 (by rw [siK _ h2]; kernel_rfl) true
  (fun args W => run_callFunc_extern Tryz.func188 (by kernel_rfl) (by kernel_rfl) (by kernel_rfl) (e := Extern.ReflectliteSwapper.swap true) (by kernel_rfl) args W) _ hless hH hblk
theorem sort_few (p : Option Addr) (n c : Nat) (h1 : n ≤ 1) (cl : Array Value) (w : World) :
  Calls Tryz.prog 79 #[.iface 43 (.slice p n c), .func (.func 80) #[] cl] w fun e w' => e = .returned (.tuple #[]) ∧ ∃ os, w' = grow w os := by
 have hK : Lib.swapperK n siE 24 = n + 1 := by
  rcases Nat.eq_zero_or_pos n with h | h
  ·subst h; simp [Lib.swapperK]
  ·obtain rfl : n = 1 := by omega
   simp [Lib.swapperK]
 exact Any.sort_Slice_tiny sl6 43 9 siT siE (by kernel_rfl) (by kernel_rfl) (by kernel_rfl) (by kernel_rfl) 24 (fun _ => by kernel_rfl) p n c h1 (185 + n) (by
  rw [hK]
  rcases Nat.eq_zero_or_pos n with h | h
  ·subst h; kernel_rfl
  ·obtain rfl : n = 1 := by omega
   kernel_rfl) (.func 80) #[] cl w
end Go.Proofs.YtgoddboicjfkcaaGreat.mg
namespace Go.Proofs.YtgoddboicjfkcaaGreat.mg
open Go.RowKit
open dn (En lget lset ldel nerr dotB Sorted lessB)
open br (BS Ino Inv fresh)
open cb (BrX RetW RetI No)
open bl (Pq Only)
open Go.Maps (IsMap)
theorem info_parts9 : ∃ i : TypeInfo, Tryz.prog.info? 9 = some i ∧ i.zero = some (.string ⟨#[]⟩) ∧ i.size = 1 ∧ i.bytes = 16 := ⟨(Tryz.prog.info? 9).get (by kernel_rfl), by kernel_rfl, by kernel_rfl, by kernel_rfl, by kernel_rfl⟩
def NR (w : World) (lo : Nat) (A : Option Addr) (l : List ByteArray) : Prop := ∀ k x, l[k]? = some x → ∃ G, A = some ⟨G, 0, none⟩ ∧ lo ≤ G ∧ G < w.heap.size ∧ w.cell? ⟨G, k, none⟩ = some (.string x) ∧ w.frozen? ⟨G, k, none⟩ = false
theorem NR.same {w w' : World} {lo : Nat} {A : Option Addr} {l : List ByteArray} (h : NR w lo A l) (hs : w.heap.size ≤ w'.heap.size) (hk : ∀ b, lo ≤ b → b < w.heap.size → w'.heap[b]? = w.heap[b]?) : NR w' lo A l := fun k x hx => by
 obtain ⟨G, e, h1, h2, h3, h4⟩ := h k x hx
 exact ⟨G, e, h1, Nat.lt_of_lt_of_le h2 hs, (World.cell?_of_block (a := ⟨G, k, none⟩) (hk G h1 h2)).trans h3, (World.frozen?_of_block (a := ⟨G, k, none⟩) (hk G h1 h2)).trans h4⟩
theorem NR.nil (w : World) (lo : Nat) (A : Option Addr) : NR w lo A [] := fun k x h => by cases h
def AllE (w : World) (U L : BS) (n : Nd) (e : Ending) (w' : World) : Prop :=
 ∃ A c l, e = .returned (.tuple #[.slice A l.length c, .int .i64 (lstV U L n)]) ∧ AllV U L n l ∧ NR w' w.heap.size A l ∧ l.length ≤ c ∧ c ≤ maxLen ∧ l.length ≤ 8000 ∧ Below w.heap.size w w'
theorem grown_set (w : World) (g i : Nat) (v : Value) : w.grownBy (w.setCell ⟨g, i, none⟩ v) (some g) := have h := (Below.refl 0 w).setCell (p := ⟨g, i, none⟩) (Nat.zero_le _) v
 ⟨h.os, h.tape, h.output, h.size, fun k hk hne => heap_set (fun e => hne (by rw [e]))⟩
theorem MapRN.keptG {w w' : World} {M r S cnt : Nat} {f : Nf} {left : ByteArray → Bool} {row : Option Nat} (h : MapRN w M r S f left cnt) (hg : w.grownBy w' row) (h1 : row ≠ some M) (h2 : row ≠ some r) : MapRN w' M r S f left cnt := by
 obtain ⟨D, lf, k1, k2, k3, k4⟩ := h
 exact ⟨D, lf, k1.kept hg h1.symm h2.symm, k2, k3, k4⟩
abbrev Ow (w : World) (B : Nat) (v : Value) (ns : List ByteArray) : Prop := w.ownsRow B 9 1 v ns.length (ns.map Value.string)
theorem Ow.same {w w' : World} {B : Nat} {v : Value} {ns : List ByteArray} (h : Ow w B v ns) (hk : ∀ g, B ≤ g → g < w.heap.size → w'.heap[g]? = w.heap[g]?) : Ow w' B v ns := by
 refine ⟨h.1, ?_⟩
 rcases h.2 with e | ⟨g, cap, cur, hv, hb, hg, r⟩
 ·exact .inl e
 ·exact .inr ⟨g, cap, cur, hv, hb, (hk g hb (Array.getElem?_eq_some_iff.1 hg).1).trans hg, r⟩
theorem Ow.below {w w' : World} {B : Nat} {v : Value} {ns : List ByteArray} (h : Ow w B v ns) (hb : Below w.heap.size w w') : Ow w' B v ns := h.same fun g _ hg => hb.block g hg
theorem Ow.grown {w w' : World} {B x : Nat} {v : Value} {ns : List ByteArray} (h : Ow w B v ns) (hg : w.grownBy w' (some x)) (hx : x < B) : Ow w' B v ns := h.same fun g h1 h2 => hg.block g h2 (fun e => by injection e with e; omega)
theorem Ow.form {w : World} {B : Nat} {v : Value} {ns : List ByteArray} (h : Ow w B v ns) : ∃ A c, v = .slice A ns.length c ∧ ns.length ≤ c ∧ c ≤ maxLen ∧ NR w B A ns := by
 rcases h.2 with ⟨hv, h0⟩ | ⟨g, cap, cur, hv, hb, hg, h1, h2, h3, h4⟩
 ·have e : ns = [] := List.eq_nil_of_length_eq_zero h0
  subst e
  exact ⟨none, 0, hv, Nat.le_refl _, by unfold maxLen; omega, NR.nil _ _ _⟩
 ·refine ⟨some ⟨g, 0, none⟩, cap, hv, h1, h2, fun k x hx => ⟨g, rfl, hb, (Array.getElem?_eq_some_iff.1 hg).1, ?_, ?_⟩⟩
  ·have hk := (List.getElem?_eq_some_iff.1 hx).1
   have : cur[k]? = some (.string x) := by
    rw [← Array.getElem?_toList]
    have h5 : (cur.toList.take (ns.length * 1))[k]? = some (.string x) := by rw [h4, List.getElem?_map, hx]; rfl
    rw [List.getElem?_take] at h5
    split at h5
    ·exact h5
    ·cases h5
   simp [World.cell?, hg, this]
  ·simp [World.frozen?, hg]
structure Coll (U L : BS) (f : Nf) (left : ByteArray → Bool) (ns : List ByteArray) : Prop where
 nd : ns.Nodup
 mem : ∀ s, s ∈ ns ↔ (∃ p, f s = some p ∧ seenV U L p ≠ (0, 0)) ∧ left s = false
theorem Coll.start (U L : BS) (f : Nf) : Coll U L f (fun a => (f a).isSome) [] := ⟨List.nodup_nil, fun s => ⟨fun e => (nomatch e), fun ⟨⟨p, e, _⟩, h⟩ => by rw [e] at h; cases h⟩⟩
theorem Coll.skip {U L : BS} {f : Nf} {left : ByteArray → Bool} {ns : List ByteArray} (h : Coll U L f left ns) {x : ByteArray} {p : Nd} (hx : f x = some p) (hp : seenV U L p = (0, 0)) : Coll U L f (fun s => left s && !decide (s = x)) ns :=
 ⟨h.nd, fun s => by
  rw [h.mem s]
  refine ⟨fun ⟨h1, h2⟩ => ⟨h1, by rw [h2]; rfl⟩, fun ⟨h1, h2⟩ => ⟨h1, ?_⟩⟩
  obtain ⟨q, e, hq⟩ := h1
  by_cases es : s = x
  ·subst es; rw [hx] at e; injection e with e; rw [← e] at hq; exact absurd hp hq
  ·rw [decide_eq_false es] at h2; simpa using h2⟩
theorem Coll.add {U L : BS} {f : Nf} {left : ByteArray → Bool} {ns : List ByteArray} (h : Coll U L f left ns) {x : ByteArray} {p : Nd} (hx : f x = some p) (hl : left x = true) (hp : seenV U L p ≠ (0, 0)) : Coll U L f (fun s => left s && !decide (s = x)) (ns ++ [x]) := by
 have hn : x ∉ ns := fun e => by have := ((h.mem x).1 e).2; rw [hl] at this; cases this
 refine ⟨?_, fun s => ?_⟩
 ·rw [List.nodup_append]
  exact ⟨h.nd, by simp, fun a ha b hb => by simp at hb; subst hb; exact fun e => hn (e ▸ ha)⟩
 ·rw [List.mem_append, h.mem s]
  by_cases es : s = x
  ·subst es
   rw [decide_eq_true rfl]
   exact ⟨fun _ => ⟨⟨p, hx, hp⟩, by simp⟩, fun _ => .inr (by simp)⟩
  ·rw [decide_eq_false es]
   simp [es]
theorem Coll.all {U L : BS} {n : Nd} {r1 r2 : Nat} {left : ByteArray → Bool} {ns l : List ByteArray} (hU : Inv U r1) (hL : Inv L r2) (hl : lstV U L n = 0) (h : Coll U L (pairF U L n) left ns) (h0 : ∀ s, left s = false) (hp : l.Perm ns) (hs : l.Pairwise fun a b => lessB b a = false) : AllV U L n l := by
 refine ⟨?_, fun s => ?_⟩
 ·have hn : l.Nodup := hp.nodup_iff.2 h.nd
  have := hs.and hn
  refine this.imp fun {a b} ⟨h1, h2⟩ => ?_
  rw [dn.less_total h2, h1]; rfl
 ·rw [hp.mem_iff, h.mem s, seen_names hU hL n s hl]
  exact ⟨fun e => e.1, fun e => ⟨e, h0 s⟩⟩
end Go.Proofs.YtgoddboicjfkcaaGreat.mg
