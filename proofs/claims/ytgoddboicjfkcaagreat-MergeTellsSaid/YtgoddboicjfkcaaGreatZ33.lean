/- Part 33 of what is known of the program's functions and of the document's words: contracts, and the mathematics beneath them. -/
import Derived.Test.YtgoddboicjfkcaaGreatProg
import Derived.Test.YtgoddboicjfkcaaGreatZ32
import Derived.Test.YtgoddboicjfkcaaGreatZ23
import Derived.ProofKit
import Derived.ChangeSlices
import Derived.SliceStrings
import Derived.Deep.Slices
import Derived.Deep.Fields
import Derived.Lib.SmallJoins
import Derived.OpenShut
import Derived.ChangeSame
set_option linter.unusedVariables false
set_option linter.unusedSimpArgs false
set_option maxRecDepth 100000
set_option maxHeartbeats 8000000
namespace Go.Proofs.YtgoddboicjfkcaaGreat.mg
open Go.RowKit
open br (BS Ino Inv fresh)
open cb (BrX RetW RetI No ReadI statV)
open bl (Pq Only)
structure R3 (w : World) (g : Nat) (x y z : Int) : Prop where
 c0 : w.cell? ⟨g, 0, none⟩ = some (.int .i64 x)
 c1 : w.cell? ⟨g, 1, none⟩ = some (.int .i64 y)
 c2 : w.cell? ⟨g, 2, none⟩ = some (.int .i64 z)
 f0 : w.frozen? ⟨g, 0, none⟩ = false
 f1 : w.frozen? ⟨g, 1, none⟩ = false
 f2 : w.frozen? ⟨g, 2, none⟩ = false
theorem R3.new (w : World) (x y z : Int) : R3 (w.alloc (.cells #[.int .i64 x, .int .i64 y, .int .i64 z] 47)) w.heap.size x y z := ⟨by simp, by simp, by simp, by simp, by simp, by simp⟩
theorem R3.lt {w : World} {g : Nat} {x y z : Int} (h : R3 w g x y z) : g < w.heap.size := World.block_lt_of_cell? _ _ h.c0
theorem R3.same {w w' : World} {g : Nat} {x y z : Int} (h : R3 w g x y z) (e : w'.heap[g]? = w.heap[g]?) : R3 w' g x y z :=
 ⟨(World.cell?_of_block (a := ⟨g, 0, none⟩) e).trans h.c0, (World.cell?_of_block (a := ⟨g, 1, none⟩) e).trans h.c1, (World.cell?_of_block (a := ⟨g, 2, none⟩) e).trans h.c2, (World.frozen?_of_block (a := ⟨g, 0, none⟩) e).trans h.f0, (World.frozen?_of_block (a := ⟨g, 1, none⟩) e).trans h.f1, (World.frozen?_of_block (a := ⟨g, 2, none⟩) e).trans h.f2⟩
theorem R3.below {w w' : World} {g : Nat} {x y z : Int} (h : R3 w g x y z) (hb : Below w.heap.size w w') : R3 w' g x y z := h.same (hb.block g h.lt)
theorem R3.range {w : World} {g : Nat} {x y z : Int} (h : R3 w g x y z) (a b c : Value) : (((w.setCell ⟨g, 0, none⟩ a).setCell ⟨g, 1, none⟩ b).setCell ⟨g, 2, none⟩ c).rangeAt g 0 [a, b, c] := by
 have ne : ∀ i j : Nat, i ≠ j → (⟨g, j, none⟩ : Addr) ≠ ⟨g, i, none⟩ := fun i j h e => by injection e with _ e; exact h e.symm
 have c0 : (w.cell? ⟨g, 0, none⟩).isSome = true := by rw [h.c0]; rfl
 have c1 : (w.cell? ⟨g, 1, none⟩).isSome = true := by rw [h.c1]; rfl
 have c2 : (w.cell? ⟨g, 2, none⟩).isSome = true := by rw [h.c2]; rfl
 intro j v hv
 rw [Nat.zero_add]
 match j, hv with
 | 0, hv =>
  cases hv
  rw [World.cell?_setCell_other _ _ _ _ (ne 0 2 (by decide)), World.cell?_setCell_other _ _ _ _ (ne 0 1 (by decide))]
  exact World.cell?_setCell_same' _ _ _ c0
 | 1, hv =>
  cases hv
  rw [World.cell?_setCell_other _ _ _ _ (ne 1 2 (by decide))]
  exact World.cell?_setCell_same' _ _ _ (by rw [World.cell?_setCell_other _ _ _ _ (ne 1 0 (by decide))]; exact c1)
 | 2, hv => cases hv; exact World.cell?_setCell_same' _ _ _ (by rw [World.cell?_setCell_other _ _ _ _ (ne 2 1 (by decide)), World.cell?_setCell_other _ _ _ _ (ne 2 0 (by decide))]; exact c2)
 | j + 3, hv => simp at hv
theorem R3.mid {w : World} {g : Nat} {x y z : Int} (h : R3 w g x y z) (a : Int) : R3 (w.setCell ⟨g, 1, none⟩ (.int .i64 a)) g x a z := by
 have ne : ∀ i j : Nat, i ≠ j → (⟨g, j, none⟩ : Addr) ≠ ⟨g, i, none⟩ := fun i j h e => by injection e with _ e; exact h e.symm
 have c1 : (w.cell? ⟨g, 1, none⟩).isSome = true := by rw [h.c1]; rfl
 exact ⟨by rw [World.cell?_setCell_other _ _ _ _ (ne 0 1 (by decide))]; exact h.c0, World.cell?_setCell_same' _ _ _ c1, by rw [World.cell?_setCell_other _ _ _ _ (ne 2 1 (by decide))]; exact h.c2, by simp [h.f0], by simp [h.f1], by simp [h.f2]⟩
theorem set3_below {w0 w : World} {g : Nat} (hb : Below w0.heap.size w0 w) (hg : w0.heap.size ≤ g) (a b c : Value) : Below w0.heap.size w0 (((w.setCell ⟨g, 0, none⟩ a).setCell ⟨g, 1, none⟩ b).setCell ⟨g, 2, none⟩ c) :=
 set_below (set2_below hb hg a b) hg c
def statN (U L : BS) (n : Nd) (cnt : Int) : (Int × Int × Int) × Int :=
 if kindV U L n = 0 then ((0, 0, 0), 2)
 else (((if n.1 ≠ 0 then U.stat n.1 else L.stat n.2).1.1, if kindV U L n = 2 then cnt else ((if n.1 ≠ 0 then U.stat n.1 else L.stat n.2).1.2.1 : Int), (if n.1 ≠ 0 then U.stat n.1 else L.stat n.2).1.2.2), (if n.1 ≠ 0 then U.stat n.1 else L.stat n.2).2)
abbrev Sv3 (r : (Int × Int × Int) × Int) : Value := .tuple #[.agg #[.int .i64 r.1.1, .int .i64 r.1.2.1, .int .i64 r.1.2.2], .int .i64 r.2]
def StatE (w : World) (U L : BS) (n : Nd) (e : Ending) (w' : World) : Prop := ∃ l : List ByteArray, AllV U L n l ∧ e = .returned (Sv3 (statN U L n l.length)) ∧ Below w.heap.size w w'
theorem Vx.statB {w : World} {V P1 P2 : Nat} {u l : Int} {U L : BS} (h : Vx w V P1 P2 u l U L) (n : Nd) : Calls Tryz.prog 58 #[Pq (if n.1 ≠ 0 then P1 else P2), .int .i64 (if n.1 ≠ 0 then n.1 else n.2)] w (RetW w (.tuple #[.agg #[.int .i64 (if n.1 ≠ 0 then U.stat n.1 else L.stat n.2).1.1, .int .i64 ((if n.1 ≠ 0 then U.stat n.1 else L.stat n.2).1.2.1 : Int), .int .i64 (if n.1 ≠ 0 then U.stat n.1 else L.stat n.2).1.2.2], .int .i64 (if n.1 ≠ 0 then U.stat n.1 else L.stat n.2).2])) := by
 by_cases e : n.1 ≠ 0
 ·simp only [if_pos e]; obtain ⟨_, _, _, k⟩ := h.b1; exact cb.x_stat k _
 ·simp only [if_neg e]; obtain ⟨_, _, _, k⟩ := h.b2; exact cb.x_stat k _
def targN (U L : BS) (n : Nd) : ByteArray × Int := if kindV U L n = 0 then (⟨#[]⟩, 2) else if n.1 ≠ 0 then U.targetOf n.1 else L.targetOf n.2
theorem Vx.targB {w : World} {V P1 P2 : Nat} {u l : Int} {U L : BS} (h : Vx w V P1 P2 u l U L) (n : Nd) : Calls Tryz.prog 60 #[Pq (if n.1 ≠ 0 then P1 else P2), .int .i64 (if n.1 ≠ 0 then n.1 else n.2)] w (fun e w' => e = .returned (.tuple #[.string (if n.1 ≠ 0 then U.targetOf n.1 else L.targetOf n.2).1, .int .i64 (if n.1 ≠ 0 then U.targetOf n.1 else L.targetOf n.2).2]) ∧ w' = w) := by
 by_cases e : n.1 ≠ 0
 ·simp only [if_pos e]; obtain ⟨_, _, _, k⟩ := h.b1; exact cb.x_target k _
 ·simp only [if_neg e]; obtain ⟨_, _, _, k⟩ := h.b2; exact cb.x_target k _
def readN (U L : BS) (n : Nd) : BS × Int := if n.1 ≠ 0 then (U, n.1) else (L, n.2)
theorem Vx.readB {w : World} {V P1 P2 : Nat} {u l : Int} {U L : BS} (h : Vx w V P1 P2 u l U L) (n : Nd) (off sz : Int) : Calls Tryz.prog 59 #[Pq (if n.1 ≠ 0 then P1 else P2), .int .i64 (if n.1 ≠ 0 then n.1 else n.2), .int .i64 off, .int .i64 sz] w (ReadI w (readN U L n).1 (readN U L n).2 off sz) := by
 unfold readN
 by_cases e : n.1 ≠ 0
 ·simp only [if_pos e]; obtain ⟨_, _, _, k⟩ := h.b1; exact cb.x_read k _ _ _
 ·simp only [if_neg e]; obtain ⟨_, _, _, k⟩ := h.b2; exact cb.x_read k _ _ _
theorem target_any {w : World} {V P1 P2 : Nat} {u l : Int} {U L : BS} (h : Vx w V P1 P2 u l U L) (n : Nd) : Calls Tryz.prog 26 #[Pq V, Nv n] w (RetW w (.tuple #[.string (targN U L n).1, .int .i64 (targN U L n).2])) := by
 obtain ⟨w1, hw1, h1, hn1, hb1⟩ := box_in h n.1 n.2
 have HK := Lib.hid (kind_any h1 n)
 have HS := Lib.hid (fun W (hb : Below w.heap.size w W) => shown_any (h.below hb) n)
 have HT := Lib.hid (fun W (hb : Below w.heap.size w W) => (h.below hb).targB n)
 have HV := Lib.hid (show targN U L n = if kindV U L n = 0 then (⟨#[]⟩, 2) else (if n.1 ≠ 0 then U.targetOf n.1 else L.targetOf n.2) from rfl)
 unfold RetI at HK
 unfold RetW at HS
 generalize targN U L n = tv at *
 generalize kindV U L n = k at *
 generalize (if n.1 ≠ 0 then U.targetOf n.1 else L.targetOf n.2) = tt at *
 generalize (if n.1 ≠ 0 then P1 else P2) = P at *
 generalize (if n.1 ≠ 0 then n.1 else n.2) = i at *
 obtain ⟨g, hg⟩ : ∃ g, w.heap.size = g := ⟨_, rfl⟩
 have HB := Lib.hid hb1
 rw [hg] at hn1
 obtain ⟨n1, n2⟩ := n
 have HN := Lib.hid hn1
 have t0 := hn1.c0
 have t1 := hn1.c1
 dsimp only at t0 t1 hw1
 clear h h1 hn1 hb1
 go_enter Tryz.func26, Tryz.ntmps26
 go_wp2_with fail
 refine HK.out.mono ?_
 rintro _ w2 ⟨rfl, hb2⟩
 have HB2 := Lib.hid (bel_step HB.out hb2)
 have HN2 := Lib.hid (HN.out.below hb2)
 clear HK hb2 HB HN t0 t1
 by_cases e0 : k = 0
 ·subst e0
  rw [if_pos rfl] at HV
  go_wp2_with fail
  go_ret2
  exact ⟨by rw [HV.out]; rfl, HB2.out⟩
 have q0 : (k == 0) = false := by simpa using e0
 rw [if_neg e0] at HV
 obtain ⟨t0, t1⟩ := HN2.out
 dsimp only at t0 t1
 have HS2 := Lib.hid (HS.out _ HB2.out)
 clear HS
 go_wp2_with fail
 refine HS2.out.mono ?_
 rintro _ w3 ⟨rfl, hb3⟩
 have HB3 := Lib.hid (bel_step HB2.out hb3)
 have HT3 := Lib.hid (HT.out _ HB3.out)
 obtain ⟨ts, te⟩ := tt
 dsimp only at HT3
 clear HS2 hb3 HT t0 t1 HN2
 go_wp2_with fail
 refine HT3.out.mono ?_
 rintro _ w4 ⟨rfl, rfl⟩
 clear HT3
 go_wp2_with fail
 go_ret2
 exact ⟨by rw [HV.out]; rfl, HB3.out⟩
theorem row_lo {w : World} {lo lo' n c : Nat} {A : Option Addr} {f : Nat → UInt8} (h : bl.Row w lo A n c f) (hl : lo' ≤ lo) : bl.Row w lo' A n c f := ⟨h.1, h.2.imp id fun ⟨g, a, b, d⟩ => ⟨g, Nat.le_trans hl a, b, d⟩⟩
def ReadN (w : World) (U L : BS) (n : Nd) (off sz : Int) (e : Ending) (w' : World) : Prop :=
 (kindV U L n = 0 ∧ e = .returned (.tuple #[.slice none 0 0, .int .i64 2]) ∧ Below w.heap.size w w') ∨ (kindV U L n ≠ 0 ∧ ReadI w (readN U L n).1 (readN U L n).2 off sz e w')
theorem read_any {w : World} {V P1 P2 : Nat} {u l : Int} {U L : BS} (h : Vx w V P1 P2 u l U L) (n : Nd) (off sz : Int) : Calls Tryz.prog 28 #[Pq V, Nv n, .int .i64 off, .int .i64 sz] w (ReadN w U L n off sz) := by
 obtain ⟨w1, hw1, h1, hn1, hb1⟩ := box_in h n.1 n.2
 have HK := Lib.hid (kind_any h1 n)
 have HS := Lib.hid (fun W (hb : Below w.heap.size w W) => shown_any (h.below hb) n)
 have HT := Lib.hid (fun W (hb : Below w.heap.size w W) => (h.below hb).readB n off sz)
 have HV := Lib.hid (show ∀ A m c er W, kindV U L n ≠ 0 → Below w.heap.size w W → ReadI W (readN U L n).1 (readN U L n).2 off sz (.returned (.tuple #[.slice A m c, .int .i64 er])) W → True from fun _ _ _ _ _ _ _ _ => trivial)
 have HD0 := Lib.hid (show ∀ W, kindV U L n = 0 → Below w.heap.size w W → ReadN w U L n off sz (.returned (.tuple #[.slice none 0 0, .int .i64 2])) W from fun W a b => .inl ⟨a, rfl, b⟩)
 have HD1 := Lib.hid (show ∀ W A c, kindV U L n ≠ 0 → bl.Row W w.heap.size A (cb.readI (readN U L n).1 (readN U L n).2 off sz).2 c (fun j => ((readN U L n).1.at (readN U L n).2).body.dat (off.toNat + j)) → Below w.heap.size w W → ReadN w U L n off sz (.returned (.tuple #[.slice A (cb.readI (readN U L n).1 (readN U L n).2 off sz).2 c, .int .i64 (cb.readI (readN U L n).1 (readN U L n).2 off sz).1])) W from fun W A c a b d => .inr ⟨a, A, c, rfl, b, d⟩)
 unfold RetI at HK
 unfold RetW at HS
 unfold ReadI at HT
 generalize kindV U L n = k at *
 generalize (cb.readI (readN U L n).1 (readN U L n).2 off sz).1 = rn at *
 generalize (cb.readI (readN U L n).1 (readN U L n).2 off sz).2 = re at *
 generalize (fun j => ((readN U L n).1.at (readN U L n).2).body.dat (off.toNat + j)) = rf at *
 generalize (if n.1 ≠ 0 then P1 else P2) = P at *
 generalize (if n.1 ≠ 0 then n.1 else n.2) = i at *
 obtain ⟨g, hg⟩ : ∃ g, w.heap.size = g := ⟨_, rfl⟩
 have HB := Lib.hid hb1
 have HGW := Lib.hid hg
 rw [hg] at hn1
 obtain ⟨n1, n2⟩ := n
 have HN := Lib.hid hn1
 have t0 := hn1.c0
 have t1 := hn1.c1
 dsimp only at t0 t1 hw1
 clear h h1 hn1 hb1 HV
 go_enter Tryz.func28, Tryz.ntmps28
 go_wp2_with fail
 refine HK.out.mono ?_
 rintro _ w2 ⟨rfl, hb2⟩
 have HB2 := Lib.hid (bel_step HB.out hb2)
 have HN2 := Lib.hid (HN.out.below hb2)
 clear HK hb2 HB HN t0 t1
 by_cases e0 : k = 0
 ·subst e0
  go_wp2_with fail
  go_ret2
  exact HD0.out _ (by first | rfl | trivial) HB2.out
 have q0 : (k == 0) = false := by simpa using e0
 have HE0 := Lib.hid e0
 obtain ⟨t0, t1⟩ := HN2.out
 dsimp only at t0 t1
 have HS2 := Lib.hid (HS.out _ HB2.out)
 clear HS e0
 go_wp2_with fail
 refine HS2.out.mono ?_
 rintro _ w3 ⟨rfl, hb3⟩
 have HB3 := Lib.hid (bel_step HB2.out hb3)
 have HT3 := Lib.hid (HT.out _ HB3.out)
 clear HS2 hb3 HT t0 t1 HN2
 go_wp2_with fail
 refine HT3.out.mono ?_
 rintro _ w4 ⟨A, c, rfl, hrow, hb4⟩
 have HB4 := Lib.hid (bel_step HB3.out hb4)
 have HRW := Lib.hid (show bl.Row w4 w.heap.size A re c rf from row_lo hrow HB3.out.size)
 clear HT3 hrow hb4
 go_wp2_with fail
 go_ret2
 exact HD1.out _ _ _ HE0.out HRW.out HB4.out
theorem stat_any {w : World} {V P1 P2 : Nat} {u l : Int} {U L : BS} {r1 r2 : Nat} (h : Vx w V P1 P2 u l U L) (hU : Inv U r1) (hL : Inv L r2) (n : Nd) : Calls Tryz.prog 23 #[Pq V, Nv n] w (StatE w U L n) := by
 obtain ⟨w1, hw1⟩ : ∃ w1, (w.alloc (.cells #[.int .i64 n.1, .int .i64 n.2] 24)).alloc (.cells #[.int .i64 0, .int .i64 0, .int .i64 0] 47) = w1 := ⟨_, rfl⟩
 have hb1 : Below w.heap.size w w1 := by rw [← hw1]; exact bel_step (bel_alloc _ _) (bel_alloc _ _)
 have hn1 : Nb w1 w.heap.size (n.1, n.2) := by rw [← hw1]; exact (Nb.new w n.1 n.2).below (bel_alloc _ _)
 have hr1 : R3 w1 (w.heap.size + 1) 0 0 0 := by rw [← hw1]; have := R3.new (w.alloc (.cells #[.int .i64 n.1, .int .i64 n.2] 24)) 0 0 0; rwa [World.size_alloc] at this
 have hz1 : w1.heap.size = w.heap.size + 1 + 1 := by rw [← hw1, World.size_alloc, World.size_alloc]
 have HK := Lib.hid (kind_any (h.below hb1) n)
 have HS := Lib.hid (fun W (hb : Below w.heap.size w W) => shown_any (h.below hb) n)
 have HT := Lib.hid (fun W (hb : Below w.heap.size w W) => (h.below hb).statB n)
 have HA := Lib.hid (fun W (hb : Below w.heap.size w W) => all_any (h.below hb) hU hL n)
 have HV := Lib.hid (fun c => show statN U L n c = (if kindV U L n = 0 then ((0, 0, 0), 2) else (((if n.1 ≠ 0 then U.stat n.1 else L.stat n.2).1.1, if kindV U L n = 2 then c else ((if n.1 ≠ 0 then U.stat n.1 else L.stat n.2).1.2.1 : Int), (if n.1 ≠ 0 then U.stat n.1 else L.stat n.2).1.2.2), (if n.1 ≠ 0 then U.stat n.1 else L.stat n.2).2)) from rfl)
 have HD := Lib.hid (show ∀ W (ll : List ByteArray), AllV U L n ll → Below w.heap.size w W → StatE w U L n (.returned (Sv3 (statN U L n ll.length))) W from fun W ll a b => ⟨ll, a, rfl, b⟩)
 have HN0 := Lib.hid (show kindV U L n ≠ 2 → AllV U L n [] from fun e => AllV.none (by rcases lst_cases U L n with ⟨a, _⟩ | ⟨_, a⟩ | ⟨a, _⟩; omega; exact absurd a e; omega))
 unfold RetI at HK
 unfold RetW at HS HT
 unfold AllE at HA
 obtain ⟨sn, hsn⟩ : ∃ sn, statN U L n = sn := ⟨_, rfl⟩
 rw [hsn] at HV HD
 clear hsn
 generalize kindV U L n = k at *
 generalize lstV U L n = le at *
 generalize (if n.1 ≠ 0 then U.stat n.1 else L.stat n.2) = tt at *
 obtain ⟨⟨ta, tb, tc⟩, te⟩ := tt
 dsimp only at HT HV
 generalize (if n.1 ≠ 0 then P1 else P2) = P at *
 generalize (if n.1 ≠ 0 then n.1 else n.2) = i at *
 generalize (tb : Int) = tz at *
 obtain ⟨g, hg⟩ : ∃ g, w.heap.size = g := ⟨_, rfl⟩
 have HB := Lib.hid hb1
 have HGB := Lib.hid hg
 have HZ := Lib.hid hz1
 rw [hg] at hn1 hr1 HZ
 obtain ⟨n1, n2⟩ := n
 have HN := Lib.hid hn1
 have HR := Lib.hid hr1
 have t0 := hn1.c0
 have t1 := hn1.c1
 dsimp only at t0 t1 hw1
 clear h hU hL hn1 hb1 hr1 hz1
 go_enter Tryz.func23, Tryz.ntmps23
 go_wp2_with fail
 refine HK.out.mono ?_
 rintro _ w2 ⟨rfl, hb2⟩
 have HB2 := Lib.hid (bel_step HB.out hb2)
 have HN2 := Lib.hid (HN.out.below hb2)
 have HR2 := Lib.hid (HR.out.below hb2)
 have HZ2 := Lib.hid (show g + 1 < w2.heap.size from (HR.out.below hb2).lt)
 clear hw1 HK hb2 HB HN HR HZ t0 t1
 by_cases e0 : k = 0
 ·subst e0
  have HV0 := Lib.hid (HV.out 0)
  rw [if_pos rfl] at HV0
  have HNN := Lib.hid (HN0.out (by decide))
  obtain ⟨s0, s1, s2, v0, v1, v2⟩ := HR2.out
  have HRS := Lib.hid (fun a b c => (HR2).out.range a b c)
  have HBS := Lib.hid (fun a b c => set3_below (HB2).out (show w.heap.size ≤ g + 1 by have := HGB.out; omega) a b c)
  clear HV HN0
  go_wp2_with fail
  refine bodyPost_ret (results_row_tmp rfl _ _ (g + 1) _ _ rfl (HRS.out _ _ _) Tryz.underlying47 (by rfl) (by rfl)) rfl ?_
  have hD := HD.out _ [] HNN.out (HBS.out (.int .i64 0) (.int .i64 0) (.int .i64 0))
  rw [show ((([] : List ByteArray).length : Nat) : Int) = 0 from rfl, HV0.out] at hD
  exact hD
 have q0 : (k == 0) = false := by simpa using e0
 obtain ⟨t0, t1⟩ := HN2.out
 dsimp only at t0 t1
 have HS2 := Lib.hid (HS.out _ HB2.out)
 have HE0 := Lib.hid e0
 clear HS e0
 go_wp2_with fail
 refine HS2.out.mono ?_
 rintro _ w3 ⟨rfl, hb3⟩
 have HB3 := Lib.hid (bel_step HB2.out hb3)
 have HN3 := Lib.hid (HN2.out.below hb3)
 have HR3 := Lib.hid (HR2.out.below hb3)
 have HT3 := Lib.hid (HT.out _ HB3.out)
 clear HS2 hb3 HT t0 t1 HN2 HR2 HB2
 go_wp2_with fail
 refine HT3.out.mono ?_
 rintro _ w4 ⟨rfl, hb4⟩
 have HB4 := Lib.hid (bel_step HB3.out hb4)
 have HN4 := Lib.hid (HN3.out.below hb4)
 have HR4 := Lib.hid (HR3.out.below hb4)
 clear HT3 hb4 HB3 HN3 HR3
 obtain ⟨w5, hw5⟩ : ∃ w5, w4.alloc (.cells #[.int .i64 ta, .int .i64 tz, .int .i64 tc] 47) = w5 := ⟨_, rfl⟩
 have hb5 : Below w4.heap.size w4 w5 := by rw [← hw5]; exact bel_alloc _ _
 have HB5 := Lib.hid (bel_step HB4.out hb5)
 have HN5 := Lib.hid (HN4.out.below hb5)
 have HR5 := Lib.hid (HR4.out.below hb5)
 have HX5 := Lib.hid (show R3 w5 w4.heap.size ta tz tc by rw [← hw5]; exact R3.new w4 ta tz tc)
 obtain ⟨gs, hgs⟩ : ∃ gs, w4.heap.size = gs := ⟨_, rfl⟩
 rw [hgs] at HX5
 have HGS := Lib.hid (show g + 1 < gs from by have := HR4.out.lt; omega)
 clear hb5 HB4 HN4 HR4
 by_cases e2 : k = 2
 ·subst e2
  obtain ⟨t0, t1⟩ := HN5.out
  dsimp only at t0 t1
  have HA5 := Lib.hid (HA.out _ HB5.out)
  clear HA
  go_wp2_with fail
  refine HA5.out.mono ?_
  rintro _ w6 ⟨A, c, ll, rfl, hal, -, hlc, hcm, -, hb6⟩
  have HAL := Lib.hid hal
  have HB6 := Lib.hid (bel_step HB5.out hb6)
  have HR6 := Lib.hid (HR5.out.below hb6)
  have HX6 := Lib.hid (HX5.out.below hb6)
  have HVL := Lib.hid (HV.out (ll.length : Int))
  simp only [if_true, if_pos, show ¬ ((2 : Int) = 0) by decide, if_false] at HVL
  have HDD := Lib.hid (HD.out · ll hal)
  generalize ll.length = m at *
  clear hal hb6 HA5 HB5 HN5 HR5 HX5 t0 t1 hw5 hgs HV HD HN0
  obtain ⟨x0, x1, x2, y0, y1, y2⟩ := HX6.out
  have HX7 := Lib.hid (HX6.out.mid (m : Int))
  have HB7 := Lib.hid (show Below w.heap.size w (w6.setCell ⟨gs, 1, none⟩ (.int .i64 (m : Int))) from set_below HB6.out (by have := HGS.out; have := HGB.out; omega) _)
  have HR7 := Lib.hid (show R3 (w6.setCell ⟨gs, 1, none⟩ (.int .i64 (m : Int))) (g + 1) 0 0 0 from HR6.out.same (heap_set (by have := HGS.out; omega)))
  go_upto_region 9 with fail
  clear HX6 HB6 HR6 x0 x1 x2 y0 y1 y2
  generalize w6.setCell ⟨gs, 1, none⟩ (.int .i64 (m : Int)) = w7 at *
  obtain ⟨x0, x1, x2, y0, y1, y2⟩ := HX7.out
  obtain ⟨s0, s1, s2, v0, v1, v2⟩ := HR7.out
  have HRS := Lib.hid (fun a b c => (HR7).out.range a b c)
  have HBS := Lib.hid (fun a b c => set3_below (HB7).out (show w.heap.size ≤ g + 1 by have := HGB.out; omega) a b c)
  go_wp2_with fail
  refine bodyPost_ret (results_row_tmp rfl _ _ (g + 1) _ _ rfl (HRS.out _ _ _) Tryz.underlying47 (by rfl) (by rfl)) rfl ?_
  have hD := HDD.out _ (HBS.out (.int .i64 ta) (.int .i64 (m : Int)) (.int .i64 tc))
  rw [HVL.out] at hD
  exact hD
 ·have q2 : (k == 2) = false := by simpa using e2
  have HVL := Lib.hid (HV.out 0)
  rw [if_neg HE0.out, if_neg e2] at HVL
  have HNN := Lib.hid (HN0.out e2)
  obtain ⟨x0, x1, x2, y0, y1, y2⟩ := HX5.out
  obtain ⟨s0, s1, s2, v0, v1, v2⟩ := HR5.out
  have HRS := Lib.hid (fun a b c => (HR5).out.range a b c)
  have HBS := Lib.hid (fun a b c => set3_below (HB5).out (show w.heap.size ≤ g + 1 by have := HGB.out; omega) a b c)
  clear HA HV HN0
  go_wp2_with fail
  refine bodyPost_ret (results_row_tmp rfl _ _ (g + 1) _ _ rfl (HRS.out _ _ _) Tryz.underlying47 (by rfl) (by rfl)) rfl ?_
  have hD := HD.out _ [] HNN.out (HBS.out (.int .i64 ta) (.int .i64 tz) (.int .i64 tc))
  rw [show ((([] : List ByteArray).length : Nat) : Int) = 0 from rfl, HVL.out] at hD
  exact hD
end Go.Proofs.YtgoddboicjfkcaaGreat.mg
namespace Go.Proofs.YtgoddboicjfkcaaGreat.cb
open Go.ChangeShapes Go.WideShapes Go.ChangeAt Go.RowKit
section
open Go.Deep
variable {H : Type} {enc : TypeId × Value → H} {P : Program} {w : World} {base : Nat} {spare : Nat → Bool} {held : Bool}
theorem open_slice_fields {t e : TypeId} {fs : Array Field} {fuel : Nat} {cs : List Value} {x : DataW H × List MemPlace} (ht : P.underlying t = some (.slice e)) (he : P.underlying e = some (.struct fs))
  (hone : oneCellFields P fs = true) (hC : P.cellsOf e = fs.size) (h : DataW.trod enc P w base spare held fuel t cs = some x) :
  (cs = [.slice none 0 0]) ∨
  ∃ (a : Addr) (len cap m : Nat), cs = [.slice (some a) len cap] ∧ len ≤ cap ∧ cap ≤ maxLen ∧ len ≤ m ∧
   ∀ i, i < m → ∃ (n : Nat), ∀ (j : Nat) (f : Field), fs[j]? = some f → ∃ (v : Value) (y : DataW H × List MemPlace), w.cell? (a.add (i * fs.size + j)) = some v ∧ DataW.trod enc P w base spare held n f.type [v] = some y := by
 rcases open_slice ht h with h0 | ⟨a, len, cap, m, n, D, Pl, hcs, hb, hl, hm, hmm, hx, hi⟩
 ·exact .inl h0.1
 ·refine .inr ⟨a, len, cap, m, hcs, hl, hm, by rw [hmm]; split <;> omega, fun i him => ?_⟩
  obtain ⟨cs', hc, ht'⟩ := hi i him
  rw [hC] at hc
  obtain ⟨ys, n', hn', hy, hlen, hyl, hf⟩ := DataW.trod_struct he ht'
  obtain ⟨_, hcl, hat⟩ := World.cells?_some hc
  refine ⟨n', fun j f hj => ?_⟩
  obtain ⟨ho, hk⟩ := hone_of hone j f hj
  have hjl : j < fs.size := (Array.getElem?_eq_some_iff.1 hj).1
  have hcell := hat j hjl
  have hv : cs'[j]? = some (cs'[j]'(by omega)) := List.getElem?_eq_getElem (by omega)
  have h1 := hf j f hj
  rw [ho, hk] at h1
  have hone' : (cs'.drop j).take 1 = [cs'[j]'(by omega)] := by
   rw [List.drop_eq_getElem_cons (by omega)]
   rfl
  rw [hone'] at h1
  have hys : ys[j]? = some (ys[j]'(by omega)) := List.getElem?_eq_getElem (by omega)
  refine ⟨_, _, ?_, h1.trans hys⟩
  rw [← Go.Deep.add_add, hcell, hv]
end
structure Act7 where
 low : Bool
 kind : Int
 d : Int
 t : Int
 n : Int
 a : ByteArray
 b : ByteArray
instance : Inhabited Act7 := ⟨⟨false, 0, 0, 0, 0, ⟨#[]⟩, ⟨#[]⟩⟩⟩
def Acts (w : World) (B : Nat) (A : Option Addr) (n : Nat) (F : Nat → Act7) : Prop := ∀ i, i < n → ∃ b off, A = some ⟨b, off, none⟩ ∧ b < B ∧
 w.cell? ⟨b, off + i * 7, none⟩ = some (.bool (F i).low) ∧
 w.cell? ⟨b, off + i * 7 + 1, none⟩ = some (.int .i64 (F i).kind) ∧
 w.cell? ⟨b, off + i * 7 + 2, none⟩ = some (.int .i64 (F i).d) ∧
 w.cell? ⟨b, off + i * 7 + 3, none⟩ = some (.int .i64 (F i).t) ∧
 w.cell? ⟨b, off + i * 7 + 4, none⟩ = some (.int .i64 (F i).n) ∧
 w.cell? ⟨b, off + i * 7 + 5, none⟩ = some (.string (F i).a) ∧
 w.cell? ⟨b, off + i * 7 + 6, none⟩ = some (.string (F i).b) ∧ (F i).a.size ≤ maxLen ∧ (F i).b.size ≤ maxLen
theorem Acts.below {w w' : World} {B n : Nat} {A : Option Addr} {F : Nat → Act7} (h : Acts w B A n F) (hb : Below B w w') : Acts w' B A n F := fun i hi => by
 obtain ⟨b, off, e, hB, h0, h1, h2, h3, h4, h5, h6, h7, h8⟩ := h i hi
 exact ⟨b, off, e, hB, (hb.cell (p := ⟨b, off + i * 7, none⟩) hB).trans h0, (hb.cell (p := ⟨b, off + i * 7 + 1, none⟩) hB).trans h1, (hb.cell (p := ⟨b, off + i * 7 + 2, none⟩) hB).trans h2, (hb.cell (p := ⟨b, off + i * 7 + 3, none⟩) hB).trans h3, (hb.cell (p := ⟨b, off + i * 7 + 4, none⟩) hB).trans h4, (hb.cell (p := ⟨b, off + i * 7 + 5, none⟩) hB).trans h5, (hb.cell (p := ⟨b, off + i * 7 + 6, none⟩) hB).trans h6, h7, h8⟩
theorem spot_none {w : World} {a : Addr} {v : Value} (h : w.cell? (a.add 0) = some v) : ∃ b off, a = ⟨b, off, none⟩ ∧ b < w.heap.size := by
 obtain ⟨b, off, spot⟩ := a
 have hs : spot = none := by simpa [Addr.add] using World.cell?_spot h
 subst hs
 exact ⟨b, off, rfl, World.block_lt_of_cell? w _ h⟩
theorem open_acts {H : Type} {enc : TypeId × Value → H} {W : World} {r : Reach} {b0 : Nat} {sp : Nat → Bool} {held : Bool} {v : Value} {d : DataW H} {p : List MemPlace}
  (hv : Value.okWide Tryz.prog W r b0 22 v) (h : DataW.Trod enc Tryz.prog W 0 sp held 22 v d p) :
  ∃ A n c F, v = .slice A n c ∧ (n ≤ c ∧ c ≤ maxLen) ∧ Acts W W.heap.size A n F := by
 obtain ⟨fuel, hf⟩ := h
 have hcells : v.cells.toList = [v] := by
  obtain ⟨A, n, c, rfl⟩ := okWide_slice Tryz.underlying22 hv
  rfl
 rw [hcells] at hf
 rcases open_slice_fields Tryz.underlying22 Tryz.underlying107 (by kernel_rfl) (by kernel_rfl) hf with e | ⟨a, len, cap, m, e, hl, hm, hlm, hi⟩
 ·injection e with e
  subst e
  exact ⟨none, 0, 0, fun _ => default, rfl, ⟨Nat.le_refl _, by unfold maxLen; omega⟩, fun i hi => absurd hi (Nat.not_lt_zero _)⟩
 ·injection e with e
  subst e
  have hall : ∀ i, ∃ x : Act7, i < len → ∃ b off, (some a : Option Addr) = some ⟨b, off, none⟩ ∧ b < W.heap.size ∧
    W.cell? ⟨b, off + i * 7, none⟩ = some (.bool x.low) ∧
 W.cell? ⟨b, off + i * 7 + 1, none⟩ = some (.int .i64 x.kind) ∧
 W.cell? ⟨b, off + i * 7 + 2, none⟩ = some (.int .i64 x.d) ∧
 W.cell? ⟨b, off + i * 7 + 3, none⟩ = some (.int .i64 x.t) ∧
 W.cell? ⟨b, off + i * 7 + 4, none⟩ = some (.int .i64 x.n) ∧
 W.cell? ⟨b, off + i * 7 + 5, none⟩ = some (.string x.a) ∧
 W.cell? ⟨b, off + i * 7 + 6, none⟩ = some (.string x.b) ∧ x.a.size ≤ maxLen ∧ x.b.size ≤ maxLen := by
   intro i
   by_cases hil : i < len
   ·obtain ⟨n0, hj0⟩ := hi 0 (by omega)
    obtain ⟨_, _, c00, _⟩ := hj0 0 _ rfl
    obtain ⟨b, off, rfl, hb⟩ := spot_none (by simpa using c00)
    obtain ⟨n, hj⟩ := hi i (by omega)
    obtain ⟨v0, y0, c0, t0⟩ := hj 0 _ rfl
    obtain ⟨v1, y1, c1, t1⟩ := hj 1 _ rfl
    obtain ⟨v2, y2, c2, t2⟩ := hj 2 _ rfl
    obtain ⟨v3, y3, c3, t3⟩ := hj 3 _ rfl
    obtain ⟨v4, y4, c4, t4⟩ := hj 4 _ rfl
    obtain ⟨v5, y5, c5, t5⟩ := hj 5 _ rfl
    obtain ⟨v6, y6, c6, t6⟩ := hj 6 _ rfl
    obtain ⟨z0, e0, _⟩ := DataW.trod_bool Tryz.underlying4 t0
    obtain ⟨z1, e1, _⟩ := DataW.trod_int Tryz.underlying3 t1
    obtain ⟨z2, e2, _⟩ := DataW.trod_int Tryz.underlying3 t2
    obtain ⟨z3, e3, _⟩ := DataW.trod_int Tryz.underlying3 t3
    obtain ⟨z4, e4, _⟩ := DataW.trod_int Tryz.underlying3 t4
    obtain ⟨z5, e5, _, hz5⟩ := DataW.trod_string Tryz.underlying9 t5
    obtain ⟨z6, e6, _, hz6⟩ := DataW.trod_string Tryz.underlying9 t6
    injection e0 with e0
    subst e0
    injection e1 with e1
    subst e1
    injection e2 with e2
    subst e2
    injection e3 with e3
    subst e3
    injection e4 with e4
    subst e4
    injection e5 with e5
    subst e5
    injection e6 with e6
    subst e6
    rw [Go.WideShapes.add_plain] at c0 c1 c2 c3 c4 c5 c6
    exact ⟨⟨z0, z1, z2, z3, z4, z5, z6⟩, fun _ => ⟨b, off, rfl, hb, by simpa using c0, by simpa [Nat.add_assoc] using c1, by simpa [Nat.add_assoc] using c2, by simpa [Nat.add_assoc] using c3, by simpa [Nat.add_assoc] using c4, by simpa [Nat.add_assoc] using c5, by simpa [Nat.add_assoc] using c6, hz5, hz6⟩⟩
   ·exact ⟨default, fun h => absurd h hil⟩
  obtain ⟨F, hF⟩ := Classical.axiomOfChoice hall
  exact ⟨some a, len, cap, F, rfl, ⟨hl, hm⟩, hF⟩
theorem law_post {H : Type} {enc : TypeId × Value → H} {P : Program} {f : Func} {s : ChangeSpec} {apart fresh handsOn : Bool} {W W' : World} {args : Array Value} {v : Value} {ds gs : List (DataW H)} {before pa pv : List MemPlace}
  (hW : DataW.Whole enc P f.params.toList s.vars apart W args.toList ds gs before)
  (hres : ∀ (b : Nat) (sp : Nat → Bool) (hd : Bool), DataW.TrodAll enc P W' b sp hd f.resultTypes.toList (v.resultList f.resultTypes.size) (s.fn H (ds ++ gs)).results [])
  (hargs : ∀ sp : Nat → Bool, (∀ p ∈ before, sp p.block = true) → DataW.TrodAll enc P W' 0 sp true f.params.toList args.toList (s.fn H (ds ++ gs)).args pa)
  (hvars : ∀ sp : Nat → Bool, (∀ p ∈ before, sp p.block = true) → DataW.TrodVars enc P W' sp s.vars (s.fn H (ds ++ gs)).vars pv)
  (hps : before = pa ++ pv) (hb : Below W.heap.size W W')
  (_hok : ∀ (j : Nat) (t : TypeId) (r : Value), f.resultTypes[j]? = some t → (v.resultList f.resultTypes.size)[j]? = some r → Value.okWide P W' .any 0 t r) :
  s.post enc P f apart fresh handsOn false W args v W' := by
 have hlt : ∀ p ∈ before, p.block < W.heap.size := fun p hp => hW.lt p hp
 have hold : ∀ p ∈ before, (fun b => decide (b < W.heap.size)) p.block = true := fun p hp => by simpa using hlt p hp
 refine ⟨ds, gs, before, [], pa, pv, hW, hres _ _ _, hargs _ hold, hvars _ hold, World.keptBut_mono (fun p hp => ⟨hp, ?_⟩) (hb.frame (· ∈ before)), fun h => by cases h⟩
 rw [hps, List.mem_append] at hp
 exact Or.inr hp
theorem arg_stays {H : Type} {enc : TypeId × Value → H} {W W' : World} {v : Value} {d : DataW H} {ps before : List MemPlace} {sp : Nat → Bool}
  (h : DataW.Trod enc Tryz.prog W 0 (fun _ => true) true 22 v d ps) (hb : Below W.heap.size W W') (hsub : ∀ x ∈ ps, x ∈ before) (hlt : ∀ x ∈ before, x.block < W.heap.size) (hsp : ∀ x ∈ before, sp x.block = true) (hlaid : laidOutB Tryz.prog = true) :
  DataW.Trod enc Tryz.prog W' 0 sp true 22 v d ps :=
 WideElems.Trod_stays hlaid (by kernel_rfl) (of_decide_eq_true (by kernel_rfl)) h (fun x hx => hb.same (hlt x (hsub x hx))) (fun x hx => hsp x (hsub x hx))
end Go.Proofs.YtgoddboicjfkcaaGreat.cb
