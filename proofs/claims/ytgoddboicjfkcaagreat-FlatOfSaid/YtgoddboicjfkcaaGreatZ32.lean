/- Part 32 of what is known of the program's functions and of the document's words: contracts, and the mathematics beneath them. -/
import Derived.Test.YtgoddboicjfkcaaGreatProg
import Derived.Test.YtgoddboicjfkcaaGreatZ27
import Derived.Test.YtgoddboicjfkcaaGreatZ31
import Derived.Test.YtgoddboicjfkcaaGreatZ28
import Derived.BigQuiet
set_option linter.unusedVariables false
set_option linter.unusedSimpArgs false
set_option maxRecDepth 100000
set_option maxHeartbeats 8000000
namespace Go.Proofs.YtgoddboicjfkcaaGreat.mg
open Go.RowKit
open dn (En lget lset ldel nerr dotB Sorted lessB)
open br (BS Ino Inv fresh)
open cb (Act7 WrI sF MadeI)
open bl (Pq WR IsStop)
abbrev zL : ByteArray := ⟨#[108]⟩
end Go.Proofs.YtgoddboicjfkcaaGreat.mg
namespace Go.Proofs.YtgoddboicjfkcaaGreat.mg
open Go.RowKit
open br (BS Ino Inv fresh)
open cb (BrX RetW RetI No Act7 ReadI)
open bl (Pq Only)
theorem new_vx {w w0 w2 : World} {P1 P2 : Nat} {U L : BS} {q1 T1 q2 T2 : Nat} (h1 : BrX w0 w P1 No U q1 T1) (h2 : BrX w2 w P2 No L q2 T2) (u l : Int) : Calls Tryz.prog 14 #[Pq P1, Pq P2, .int .i64 u, .int .i64 l] w (fun e w' => ∃ V, e = .returned (Pq V) ∧ Vx w' V P1 P2 u l U L ∧ Below w.heap.size w w') :=
 (new_any P1 P2 u l w).mono fun e w' ⟨he, hw⟩ => ⟨_, he, by rw [hw]; exact Vx.made h1 h2, by rw [hw]; exact bel_alloc _ _⟩
end Go.Proofs.YtgoddboicjfkcaaGreat.mg
namespace Go.Proofs.YtgoddboicjfkcaaGreat.mg
open Go.RowKit Go.Deep
open br (BS Ino Inv fresh)
open cb (BrX RetW RetI No DB RetQ Pd)
open bl (Pq)
structure Vd (w : World) (D1 D2 : Nat) (U L : BS) : Prop where
 d1 : ∃ lo RS pl tg r, DB w D1 lo RS pl tg U r ∧ br.Good U r
 d2 : ∃ lo RS pl tg r, DB w D2 lo RS pl tg L r ∧ br.Good L r
abbrev Rv (D1 D2 : Nat) (u l : Int) : Value := .agg #[Pq D1, Pq D2, .int .i64 u, .int .i64 l]
structure R4 (w : World) (g : Nat) (D1 D2 : Nat) (u l : Int) : Prop where
 c0 : w.cell? ⟨g, 0, none⟩ = some (Pq D1)
 c1 : w.cell? ⟨g, 1, none⟩ = some (Pq D2)
 c2 : w.cell? ⟨g, 2, none⟩ = some (.int .i64 u)
 c3 : w.cell? ⟨g, 3, none⟩ = some (.int .i64 l)
section
variable {w w' : World} {D1 D2 g : Nat} {U L : BS} {u l : Int}
theorem Vd.below (h : Vd w D1 D2 U L) (hb : Below w.heap.size w w') : Vd w' D1 D2 U L :=
 ⟨by obtain ⟨a, b, c, d, r, e, g⟩ := h.d1; exact ⟨a, b, c, d, r, e.below hb, g⟩, by obtain ⟨a, b, c, d, r, e, g⟩ := h.d2; exact ⟨a, b, c, d, r, e.below hb, g⟩⟩
theorem Vd.i1 (h : Vd w D1 D2 U L) : ∃ r, Inv U r := by obtain ⟨_, _, _, _, r, _, g⟩ := h.d1; exact ⟨r, g.1⟩
theorem Vd.i2 (h : Vd w D1 D2 U L) : ∃ r, Inv L r := by obtain ⟨_, _, _, _, r, _, g⟩ := h.d2; exact ⟨r, g.1⟩
theorem R4.new (w : World) (D1 D2 : Nat) (u l : Int) : R4 (w.alloc (.cells #[Pq D1, Pq D2, .int .i64 u, .int .i64 l] 36)) w.heap.size D1 D2 u l := ⟨by simp, by simp, by simp, by simp⟩
theorem R4.lt (h : R4 w g D1 D2 u l) : g < w.heap.size := World.block_lt_of_cell? _ _ h.c0
theorem R4.below (h : R4 w g D1 D2 u l) (hb : Below w.heap.size w w') : R4 w' g D1 D2 u l :=
 ⟨(hb.cell (p := ⟨g, 0, none⟩) h.lt).trans h.c0, (hb.cell (p := ⟨g, 1, none⟩) h.lt).trans h.c1, (hb.cell (p := ⟨g, 2, none⟩) h.lt).trans h.c2, (hb.cell (p := ⟨g, 3, none⟩) h.lt).trans h.c3⟩
theorem quiet_below {f : FuncId} {args : Array Value} {v : Value} (h : Calls Tryz.prog f args w (RetQ w v)) : Calls Tryz.prog f args w (fun e w' => e = .returned v ∧ Below w.heap.size w w') := h.mono fun _ _ ⟨a, b⟩ => ⟨a, by rw [b]; exact Below.refl _ _⟩
theorem Vd.kind1 (h : Vd w D1 D2 U L) (i : Int) : Calls Tryz.prog 69 #[Pq D1, .int .i64 i] w (fun e w' => e = .returned (.int .i64 (U.kindOf i)) ∧ Below w.heap.size w w') := by obtain ⟨_, _, _, _, _, k, g⟩ := h.d1; exact quiet_below (cb.q_kind k i)
theorem Vd.kind2 (h : Vd w D1 D2 U L) (i : Int) : Calls Tryz.prog 69 #[Pq D2, .int .i64 i] w (fun e w' => e = .returned (.int .i64 (L.kindOf i)) ∧ Below w.heap.size w w') := by obtain ⟨_, _, _, _, _, k, g⟩ := h.d2; exact quiet_below (cb.q_kind k i)
theorem Vd.get1 (h : Vd w D1 D2 U L) (i : Int) (s : ByteArray) : Calls Tryz.prog 76 #[Pq D1, .int .i64 i, .string s] w (fun e w' => e = .returned (.tuple #[.int .i64 (U.get i s).1, .int .i64 (U.get i s).2]) ∧ Below w.heap.size w w') := by obtain ⟨_, _, _, _, _, k, g⟩ := h.d1; exact quiet_below (cb.q_get k g i s)
theorem Vd.get2 (h : Vd w D1 D2 U L) (i : Int) (s : ByteArray) : Calls Tryz.prog 76 #[Pq D2, .int .i64 i, .string s] w (fun e w' => e = .returned (.tuple #[.int .i64 (L.get i s).1, .int .i64 (L.get i s).2]) ∧ Below w.heap.size w w') := by obtain ⟨_, _, _, _, _, k, g⟩ := h.d2; exact quiet_below (cb.q_get k g i s)
end
theorem rkind_any {w : World} {D1 D2 : Nat} {U L : BS} {u l : Int} (h : Vd w D1 D2 U L) (n : Nd) : Calls Tryz.prog 20 #[Rv D1 D2 u l, Nv n] w (RetI w (kindV U L n)) := by
 obtain ⟨n1, n2⟩ := n
 obtain ⟨w1, hw1⟩ : ∃ w1, (w.alloc (.cells #[Pq D1, Pq D2, .int .i64 u, .int .i64 l] 36)).alloc (.cells #[.int .i64 n1, .int .i64 n2] 24) = w1 := ⟨_, rfl⟩
 have hb1 : Below w.heap.size w w1 := by rw [← hw1]; exact bel_step (bel_alloc _ _) (bel_alloc _ _)
 have HR := Lib.hid (show R4 w1 w.heap.size D1 D2 u l by rw [← hw1]; exact (R4.new w D1 D2 u l).below (bel_alloc _ _))
 have HN := Lib.hid (show Nb w1 (w.heap.size + 1) (n1, n2) by rw [← hw1]; have := Nb.new (w.alloc (.cells #[Pq D1, Pq D2, .int .i64 u, .int .i64 l] 36)) n1 n2; rwa [World.size_alloc] at this)
 have HD := Lib.hid (fun W (hb : Below w1.heap.size w1 W) => (h.below hb1).below hb)
 have HK1 := Lib.hid (fun W (hb : Below w1.heap.size w1 W) => (HD.out W hb).kind1 n1)
 have HK2 := Lib.hid (fun W (hb : Below w1.heap.size w1 W) => (HD.out W hb).kind2 n2)
 have HB1 := Lib.hid hb1
 have HV := Lib.hid (show kindV U L (n1, n2) = if (if n1 ≠ 0 then U.kindOf n1 else L.kindOf n2) = 4 then 0 else (if n1 ≠ 0 then U.kindOf n1 else L.kindOf n2) from rfl)
 generalize kindV U L (n1, n2) = kv at *
 generalize U.kindOf n1 = k1 at *
 generalize L.kindOf n2 = k2 at *
 obtain ⟨g, hg⟩ : ∃ g, w.heap.size = g := ⟨_, rfl⟩
 rw [hg] at HR HN
 obtain ⟨a0, a1, a2, a3⟩ := HR.out
 obtain ⟨b0, b1⟩ := HN.out
 dsimp only at b0 b1
 clear h hb1 HD
 unfold RetI
 go_enter Tryz.func20, Tryz.ntmps20
 go_wp2_with fail
 refine (HK1.out _ (Below.refl _ _)).mono ?_
 rintro _ w2 ⟨rfl, hb2⟩
 have HB2 := Lib.hid hb2
 have HR2 := Lib.hid (HR.out.below hb2)
 have HN2 := Lib.hid (HN.out.below hb2)
 clear hb2 a0 a1 a2 a3 b0 b1 HK1
 obtain ⟨a0, a1, a2, a3⟩ := HR2.out
 obtain ⟨b0, b1⟩ := HN2.out
 dsimp only at b0 b1
 by_cases h1 : n1 = 0
 ·subst h1
  go_wp2_with fail
  refine (HK2.out _ HB2.out).mono ?_
  rintro _ w3 ⟨rfl, hb3⟩
  have HE := Lib.hid (bel_step HB1.out (bel_step HB2.out hb3))
  have hv := HV.out
  clear hb3 HV
  by_cases h4 : k2 = 4
  ·subst h4
   simp at hv
   subst hv
   go_wp2_with fail
   go_ret
   exact ⟨rfl, HE.out⟩
  ·have q4 : (k2 == 4) = false := by simpa using h4
   simp [h4] at hv
   subst hv
   go_wp2_with fail
   go_ret
   exact ⟨rfl, HE.out⟩
 ·have q1 : (n1 == 0) = false := by simpa using h1
  have HE := Lib.hid (bel_step HB1.out HB2.out)
  have hv := HV.out
  clear HV
  by_cases h4 : k1 = 4
  ·subst h4
   simp [h1] at hv
   subst hv
   clear h1
   go_wp2_with fail
   go_ret
   exact ⟨rfl, HE.out⟩
  ·have q4 : (k1 == 4) = false := by simpa using h4
   simp [h1, h4] at hv
   subst hv
   clear h1 h4
   go_wp2_with fail
   go_ret
   exact ⟨rfl, HE.out⟩
theorem ropq_any {w : World} {D1 D2 : Nat} {U L : BS} {u l : Int} (h : Vd w D1 D2 U L) (i : Int) : Calls Tryz.prog 70 #[Rv D1 D2 u l, .int .i64 i] w (fun e w' => e = .returned (.bool (opq U i)) ∧ Below w.heap.size w w') := by
 obtain ⟨w1, hw1⟩ : ∃ w1, w.alloc (.cells #[Pq D1, Pq D2, .int .i64 u, .int .i64 l] 36) = w1 := ⟨_, rfl⟩
 have hb1 : Below w.heap.size w w1 := by rw [← hw1]; exact bel_alloc _ _
 have HR := Lib.hid (show R4 w1 w.heap.size D1 D2 u l by rw [← hw1]; exact R4.new w D1 D2 u l)
 have HD := Lib.hid (h.below hb1)
 have HB1 := Lib.hid hb1
 have HIS := Lib.hid (show Calls Tryz.prog 105 #[Pq D1, .int .i64 i] w1 (RetQ w1 (.bool (U.isI i))) by obtain ⟨_, _, _, _, _, k, g⟩ := HD.out.d1; exact cb.q_is k i)
 obtain ⟨g, hg⟩ : ∃ g, w.heap.size = g := ⟨_, rfl⟩
 rw [hg] at HR
 obtain ⟨a0, a1, a2, a3⟩ := HR.out
 unfold RetQ at HIS
 rcases cb.isI_cases U i with hI | ⟨I, rfl, i1, i2, hn, hI⟩
 ·rw [hI] at HIS
  have ho : opq U i = false := by unfold opq br.BS.marksOf; rw [if_neg (by rw [hI]; decide)]; rfl
  rw [ho]
  clear h hb1 HD ho hI
  go_enter Tryz.func70, Tryz.ntmps70
  go_wp2_with fail
  refine HIS.out.mono ?_
  rintro _ w2 ⟨rfl, rfl⟩
  go_wp2_with fail
  go_ret
  exact ⟨rfl, HB1.out⟩
 ·rw [hI] at HIS
  have hm : U.marksOf (I : Int) = (U.ino I).marks := by unfold br.BS.marksOf br.BS.at; rw [if_pos hI, Int.toNat_natCast]
  have HO := Lib.hid (show opq U (I : Int) = decide ((U.ino I).marks % 2 = 1) by unfold opq; rw [hm])
  have c3 : w1.cell? ⟨D1, 1 + I * 9 + 3, none⟩ = some (.int .i64 (U.ino I).marks) := by obtain ⟨_, _, _, _, _, k, g⟩ := HD.out.d1; exact (k.ino I i2).c3
  generalize (U.ino I).marks = mk at *
  generalize opq U (I : Int) = o at *
  clear h hb1 HD hI hn hm
  go_enter Tryz.func70, Tryz.ntmps70
  go_wp2_with fail
  refine HIS.out.mono ?_
  rintro _ w2 ⟨rfl, rfl⟩
  go_wp2_with fail
  go_ret
  refine ⟨?_, HB1.out⟩
  have e : ((IntKind.u64.wrap mk).tmod 2 == 1) = o := by
   rw [HO.out]
   have hw : IntKind.u64.wrap mk = mk % 18446744073709551616 := by unfold IntKind.wrap; simp [IntKind.bits, IntKind.signed]
   rw [hw, Int.tmod_eq_emod_of_nonneg (Int.emod_nonneg _ (by decide)), Bool.eq_iff_iff, beq_iff_eq, decide_eq_true_eq]
   omega
  rw [← e]
  rfl
theorem rcounts_any {w : World} {D1 D2 : Nat} {U L : BS} {u l : Int} (h : Vd w D1 D2 U L) (n : Nd) : Calls Tryz.prog 75 #[Rv D1 D2 u l, Nv n] w (fun e w' => e = .returned (.bool (decide (n.2 ≠ 0) && (decide (n.1 = 0) || !opq U n.1))) ∧ Below w.heap.size w w') := by
 obtain ⟨n1, n2⟩ := n
 obtain ⟨w1, hw1⟩ : ∃ w1, (w.alloc (.cells #[Pq D1, Pq D2, .int .i64 u, .int .i64 l] 36)).alloc (.cells #[.int .i64 n1, .int .i64 n2] 24) = w1 := ⟨_, rfl⟩
 have hb1 : Below w.heap.size w w1 := by rw [← hw1]; exact bel_step (bel_alloc _ _) (bel_alloc _ _)
 have HR := Lib.hid (show R4 w1 w.heap.size D1 D2 u l by rw [← hw1]; exact (R4.new w D1 D2 u l).below (bel_alloc _ _))
 have HN := Lib.hid (show Nb w1 (w.heap.size + 1) (n1, n2) by rw [← hw1]; have := Nb.new (w.alloc (.cells #[Pq D1, Pq D2, .int .i64 u, .int .i64 l] 36)) n1 n2; rwa [World.size_alloc] at this)
 have HO := Lib.hid (ropq_any (u := u) (l := l) (h.below hb1) n1)
 have HB1 := Lib.hid hb1
 obtain ⟨g, hg⟩ : ∃ g, w.heap.size = g := ⟨_, rfl⟩
 rw [hg] at HR HN
 obtain ⟨a0, a1, a2, a3⟩ := HR.out
 obtain ⟨b0, b1⟩ := HN.out
 dsimp only at b0 b1 ⊢
 generalize opq U n1 = o at *
 clear h hb1
 by_cases h2 : n2 = 0
 ·subst h2
  go_enter Tryz.func75, Tryz.ntmps75
  go_wp2_with fail
  go_ret
  exact ⟨rfl, HB1.out⟩
 ·have q2 : (n2 != 0) = true := by simpa using h2
  have e2 : decide (n2 ≠ 0) = true := by simpa using h2
  by_cases h1 : n1 = 0
  ·subst h1
   rw [e2]
   clear h2 e2
   go_enter Tryz.func75, Tryz.ntmps75
   go_wp2_with fail
   go_ret
   exact ⟨rfl, HB1.out⟩
  ·have q1 : (n1 == 0) = false := by simpa using h1
   rw [e2, decide_eq_false h1]
   clear h2 e2 h1
   go_enter Tryz.func75, Tryz.ntmps75
   go_wp2_with fail
   refine HO.out.mono ?_
   rintro _ w2 ⟨rfl, hb2⟩
   have HE := Lib.hid (bel_step HB1.out hb2)
   clear hb2
   go_wp2_with fail
   go_ret
   exact ⟨by cases o <;> rfl, HE.out⟩
end Go.Proofs.YtgoddboicjfkcaaGreat.mg
namespace Go.Proofs.YtgoddboicjfkcaaGreat.mg
open Go.RowKit Go.Deep
open br (BS Ino Inv fresh)
open cb (BrX RetW RetI No)
open bl (Pq)
theorem R4.same {w w' : World} {g D1 D2 : Nat} {u l : Int} (h : R4 w g D1 D2 u l) (e : w'.heap[g]? = w.heap[g]?) : R4 w' g D1 D2 u l :=
 ⟨(World.cell?_of_block (a := ⟨g, 0, none⟩) e).trans h.c0, (World.cell?_of_block (a := ⟨g, 1, none⟩) e).trans h.c1, (World.cell?_of_block (a := ⟨g, 2, none⟩) e).trans h.c2, (World.cell?_of_block (a := ⟨g, 3, none⟩) e).trans h.c3⟩
theorem rroot_any {w : World} {D1 D2 : Nat} {u l : Int} {U L : BS} (h : Vd w D1 D2 U L) : Calls Tryz.prog 16 #[Rv D1 D2 u l] w (fun e w' => e = .returned (Nv (rootV U L u l)) ∧ Below w.heap.size w w') := by
 have HF := Lib.hid (show ∀ w1, ((w.alloc (.cells #[Pq D1, Pq D2, .int .i64 u, .int .i64 l] 36)).alloc (.cells #[.int .i64 0, .int .i64 0] 24)).alloc (.cells #[.int .i64 0, .int .i64 0] 24) = w1 → Below w.heap.size w w1 ∧ R4 w1 w.heap.size D1 D2 u l ∧ R2 w1 (w.heap.size + 1) 0 0 ∧ R2 w1 (w.heap.size + 2) 0 0 from fun w1 hw1 => by
  refine ⟨?_, ?_, ?_, ?_⟩
  ·rw [← hw1]; exact bel_step (bel_step (bel_alloc _ _) (bel_alloc _ _)) (bel_alloc _ _)
  ·rw [← hw1]; exact (R4.new w D1 D2 u l).below (bel_step (bel_alloc _ _) (bel_alloc _ _))
  ·rw [← hw1]; have := (R2.new (w.alloc (.cells #[Pq D1, Pq D2, .int .i64 u, .int .i64 l] 36)) 0 0).below (bel_alloc _ (.cells #[.int .i64 0, .int .i64 0] 24)); rwa [World.size_alloc] at this
  ·rw [← hw1]; have := R2.new ((w.alloc (.cells #[Pq D1, Pq D2, .int .i64 u, .int .i64 l] 36)).alloc (.cells #[.int .i64 0, .int .i64 0] 24)) 0 0; rwa [World.size_alloc, World.size_alloc] at this)
 have HKU := Lib.hid (fun W (hb : Below w.heap.size w W) => (h.below hb).kind1 u)
 have HKL := Lib.hid (fun W (hb : Below w.heap.size w W) => (h.below hb).kind2 l)
 have HOP := Lib.hid (fun W x (hb : Below w.heap.size w W) => ropq_any (u := u) (l := l) (h.below hb) x)
 have HSE := Lib.hid (show rootV U L u l = ((if U.kindOf u = 2 then u else 0), (if L.kindOf l = 2 ∧ opq U (if U.kindOf u = 2 then u else 0) = false then l else 0)) from rfl)
 have HZO := Lib.hid (opq_zero U)
 have HUZ := Lib.hid (show U.kindOf u = 2 → (u != 0) = true from fun e => by simp; intro e0; rw [e0, kind_zero] at e; cases e)
 generalize rootV U L u l = r at *
 generalize L.kindOf l = lk at *
 generalize U.kindOf u = uk at *
 obtain ⟨g, hg⟩ : ∃ g, w.heap.size = g := ⟨_, rfl⟩
 have HGB := Lib.hid hg
 rw [hg] at HF
 clear h
 go_enter Tryz.func16, Tryz.ntmps16
 go_upto_region 2 with fail
 generalize hw1 : ((w.alloc (.cells #[Pq D1, Pq D2, .int .i64 u, .int .i64 l] 36)).alloc (.cells #[.int .i64 0, .int .i64 0] 24)).alloc (.cells #[.int .i64 0, .int .i64 0] 24) = w1
 obtain ⟨hb1, hg0, hg1, hg2⟩ := HF.out w1 hw1
 have HB := Lib.hid (show Below w.heap.size w w1 by rw [hg]; exact hb1)
 have HG0 := Lib.hid hg0
 have HG1 := Lib.hid hg1
 have HG2 := Lib.hid hg2
 obtain ⟨k0, k1, k2, k3⟩ := HG0.out
 clear hb1 hg0 hg1 hg2 HF
 go_wp2_with fail
 refine (HKU.out _ HB.out).mono ?_
 rintro _ w8 ⟨rfl, hb8⟩
 have HB8 := Lib.hid (bel_step HB.out hb8)
 have HG08 := Lib.hid (HG0.out.below hb8)
 have HG18 := Lib.hid (HG1.out.below hb8)
 have HG28 := Lib.hid (HG2.out.below hb8)
 clear k0 k1 k2 k3 hb8 HKU HG0 HG1 HG2 HB hw1
 obtain ⟨k0, k1, k2, k3⟩ := HG08.out
 obtain ⟨r0, r1, f0, f1⟩ := HG28.out
 have END : ∀ (W : World) (x y : Int), Below w.heap.size w W → R2 W (g + 1) 0 0 → Below w.heap.size w ((W.setCell ⟨g + 1, 0, none⟩ (.int .i64 x)).setCell ⟨g + 1, 1, none⟩ (.int .i64 y)) := fun W x y hb _ => set2_below hb (by have := HGB.out; omega) _ _
 have HEND := Lib.hid END
 clear END
 by_cases e2 : uk = 2
 ·subst e2
  rw [if_pos rfl] at HSE
  have HN := Lib.hid (show Below w.heap.size w (w8.setCell ⟨g + 2, 0, none⟩ (.int .i64 u)) from set_below HB8.out (by have := HGB.out; omega) _)
  have HX0 := Lib.hid (show R4 (w8.setCell ⟨g + 2, 0, none⟩ (.int .i64 u)) g D1 D2 u l from HG08.out.same (heap_set (by omega)))
  have HX1 := Lib.hid (show R2 (w8.setCell ⟨g + 2, 0, none⟩ (.int .i64 u)) (g + 1) 0 0 from HG18.out.same (heap_set (by omega)))
  have HX2 := Lib.hid (HG28.out.up u)
  go_upto_region 4 with fail
  clear HB8 HG08 HG18 HG28 k0 k1 k2 k3 r0 r1 f0 f1
  generalize w8.setCell ⟨g + 2, 0, none⟩ (.int .i64 u) = w9 at *
  have HO := Lib.hid (fun V' (hb : Below w.heap.size w V') => HOP.out V' u hb)
  clear HOP HZO
  generalize opq U u = oq at *
  have HUQ := Lib.hid (HUZ.out (by first | rfl | trivial))
  clear HUZ
  obtain ⟨k0, k1, k2, k3⟩ := HX0.out
  obtain ⟨r0, r1, f0, f1⟩ := HX2.out
  go_wp2_with fail
  refine (HKL.out _ HN.out).mono ?_
  rintro _ wa ⟨rfl, hba⟩
  have HNa := Lib.hid (bel_step HN.out hba)
  have HX0a := Lib.hid (HX0.out.below hba)
  have HX1a := Lib.hid (HX1.out.below hba)
  have HX2a := Lib.hid (HX2.out.below hba)
  clear k0 k1 k2 k3 r0 r1 f0 f1 hba HN HX0 HX1 HX2 HKL
  obtain ⟨k0, k1, k2, k3⟩ := HX0a.out
  obtain ⟨r0, r1, f0, f1⟩ := HX2a.out
  by_cases l2 : lk = 2
  case neg =>
   have ql : (lk == 2) = false := by simpa using l2
   rw [if_neg (fun e => l2 e.1)] at HSE
   clear l2
   have HRS := Lib.hid (fun a b => HX1a.out.range a b)
   have HBS := Lib.hid (fun a b => set2_below HNa.out (show w.heap.size ≤ g + 1 by have := HGB.out; omega) a b)
   obtain ⟨s0, s1, v0, v1⟩ := HX1a.out
   go_wp2_with fail
   refine bodyPost_ret (results_cell1 rfl _ _ (g + 1) _ _ rfl (HRS.out _ _) Tryz.underlying24 (by rfl) (by rfl)) rfl ?_
   exact ⟨by rw [HSE.out], HBS.out _ _⟩
  subst l2
  have qu := HUQ.out
  go_wp2_with fail
  refine (HO.out _ HNa.out).mono ?_
  rintro _ wb ⟨rfl, hbb⟩
  have HNb := Lib.hid (bel_step HNa.out hbb)
  have HX0b := Lib.hid (HX0a.out.below hbb)
  have HX1b := Lib.hid (HX1a.out.below hbb)
  have HX2b := Lib.hid (HX2a.out.below hbb)
  clear k0 k1 k2 k3 r0 r1 f0 f1 hbb HNa HX0a HX1a HX2a HO
  obtain ⟨k0, k1, k2, k3⟩ := HX0b.out
  obtain ⟨r0, r1, f0, f1⟩ := HX2b.out
  cases oq with
  | true =>
   rw [if_neg (by decide)] at HSE
   have HRS := Lib.hid (fun a b => HX1b.out.range a b)
   have HBS := Lib.hid (fun a b => set2_below HNb.out (show w.heap.size ≤ g + 1 by have := HGB.out; omega) a b)
   obtain ⟨s0, s1, v0, v1⟩ := HX1b.out
   go_wp2_with fail
   refine bodyPost_ret (results_cell1 rfl _ _ (g + 1) _ _ rfl (HRS.out _ _) Tryz.underlying24 (by rfl) (by rfl)) rfl ?_
   exact ⟨by rw [HSE.out], HBS.out _ _⟩
  | false =>
   rw [if_pos (by decide)] at HSE
   have HNN := Lib.hid (show Below w.heap.size w (wb.setCell ⟨g + 2, 1, none⟩ (.int .i64 l)) from set_below HNb.out (by have := HGB.out; omega) _)
   have HX1N := Lib.hid (show R2 (wb.setCell ⟨g + 2, 1, none⟩ (.int .i64 l)) (g + 1) 0 0 from HX1b.out.same (heap_set (by omega)))
   have HX2N := Lib.hid (HX2b.out.lo l)
   go_upto_region 6 with fail
   clear k0 k1 k2 k3 r0 r1 f0 f1 HX2b HX1b HNb
   generalize wb.setCell ⟨g + 2, 1, none⟩ (.int .i64 l) = w12 at *
   obtain ⟨r0, r1, f0, f1⟩ := HX2N.out
   have HRS := Lib.hid (fun a b => HX1N.out.range a b)
   have HBS := Lib.hid (fun a b => set2_below HNN.out (show w.heap.size ≤ g + 1 by have := HGB.out; omega) a b)
   obtain ⟨s0, s1, v0, v1⟩ := HX1N.out
   go_wp2_with fail
   refine bodyPost_ret (results_cell1 rfl _ _ (g + 1) _ _ rfl (HRS.out _ _) Tryz.underlying24 (by rfl) (by rfl)) rfl ?_
   exact ⟨by rw [HSE.out], HBS.out _ _⟩
 ·have q2 : (uk == 2) = false := by simpa using e2
  rw [if_neg e2] at HSE
  clear e2 HUZ HOP
  have HN := HB8
  have HX0 := HG08
  have HX1 := HG18
  have HX2 := HG28
  clear HB8 HG08 HG18 HG28 k0 k1 k2 k3 r0 r1 f0 f1
  obtain ⟨k0, k1, k2, k3⟩ := HX0.out
  obtain ⟨r0, r1, f0, f1⟩ := HX2.out
  go_wp2_with fail
  refine (HKL.out _ HN.out).mono ?_
  rintro _ wa ⟨rfl, hba⟩
  have HNa := Lib.hid (bel_step HN.out hba)
  have HX0a := Lib.hid (HX0.out.below hba)
  have HX1a := Lib.hid (HX1.out.below hba)
  have HX2a := Lib.hid (HX2.out.below hba)
  clear k0 k1 k2 k3 r0 r1 f0 f1 hba HN HX0 HX1 HX2 HKL
  obtain ⟨k0, k1, k2, k3⟩ := HX0a.out
  obtain ⟨r0, r1, f0, f1⟩ := HX2a.out
  by_cases l2 : lk = 2
  case neg =>
   have ql : (lk == 2) = false := by simpa using l2
   rw [if_neg (fun e => l2 e.1)] at HSE
   clear l2
   have HRS := Lib.hid (fun a b => HX1a.out.range a b)
   have HBS := Lib.hid (fun a b => set2_below HNa.out (show w.heap.size ≤ g + 1 by have := HGB.out; omega) a b)
   obtain ⟨s0, s1, v0, v1⟩ := HX1a.out
   go_wp2_with fail
   refine bodyPost_ret (results_cell1 rfl _ _ (g + 1) _ _ rfl (HRS.out _ _) Tryz.underlying24 (by rfl) (by rfl)) rfl ?_
   exact ⟨by rw [HSE.out], HBS.out _ _⟩
  subst l2
  rw [if_pos ⟨rfl, HZO.out⟩] at HSE
  have HNN := Lib.hid (show Below w.heap.size w (wa.setCell ⟨g + 2, 1, none⟩ (.int .i64 l)) from set_below HNa.out (by have := HGB.out; omega) _)
  have HX1N := Lib.hid (show R2 (wa.setCell ⟨g + 2, 1, none⟩ (.int .i64 l)) (g + 1) 0 0 from HX1a.out.same (heap_set (by omega)))
  have HX2N := Lib.hid (HX2a.out.lo l)
  go_upto_region 6 with fail
  clear k0 k1 k2 k3 r0 r1 f0 f1 HX2a HX1a HNa
  generalize wa.setCell ⟨g + 2, 1, none⟩ (.int .i64 l) = w12 at *
  obtain ⟨r0, r1, f0, f1⟩ := HX2N.out
  have HRS := Lib.hid (fun a b => HX1N.out.range a b)
  have HBS := Lib.hid (fun a b => set2_below HNN.out (show w.heap.size ≤ g + 1 by have := HGB.out; omega) a b)
  obtain ⟨s0, s1, v0, v1⟩ := HX1N.out
  go_wp2_with fail
  refine bodyPost_ret (results_cell1 rfl _ _ (g + 1) _ _ rfl (HRS.out _ _) Tryz.underlying24 (by rfl) (by rfl)) rfl ?_
  exact ⟨by rw [HSE.out], HBS.out _ _⟩
end Go.Proofs.YtgoddboicjfkcaaGreat.mg
namespace Go.Proofs.YtgoddboicjfkcaaGreat.mg
open Go.RowKit Go.Deep
open br (BS Ino Inv fresh)
def cntV (U : BS) (n : Nd) : Bool := decide (n.2 ≠ 0) && (decide (n.1 = 0) || !opq U n.1)
def lowV (U L : BS) (n : Nd) (s : ByteArray) : Int := if cntV U n = true then (L.get n.2 s).1 else 0
def upV (U : BS) (n : Nd) (s : ByteArray) : Int := if n.1 ≠ 0 then (U.get n.1 s).1 else 0
theorem upV_is (U : BS) (n : Nd) (s : ByteArray) : upV U n s = (U.get n.1 s).1 := by
 unfold upV
 by_cases h : n.1 = 0
 ·rw [if_neg (by simpa using h), h, get_at_zero]
 ·rw [if_pos h]
theorem lowV_is (U L : BS) (n : Nd) (s : ByteArray) : lowV U L n s = (L.get (belV U n) s).1 := by
 unfold lowV cntV belV
 by_cases h2 : n.2 = 0
 ·have e : (if opq U n.1 = true then 0 else n.2) = 0 := by split; rfl; exact h2
  rw [e, get_at_zero, if_neg (by simp [h2])]
 ·by_cases h1 : n.1 = 0
  ·rw [h1, opq_zero, if_pos (by simp [h2]), if_neg (by decide)]
  ·cases ho : opq U n.1
   ·rw [if_pos (by simp [h2]), if_neg (by decide)]
   ·rw [if_neg (by simp [h1]), if_pos rfl, get_at_zero]
theorem getV_doc {U L : BS} {room room2 : Nat} (hU : Inv U room) (hL : Inv L room2) (n : Nd) (s : ByteArray) (hk : kindV U L n = 2) :
  getV U L n s = if upV U n s ≠ 0 then (if U.kindOf (upV U n s) = 4 then ((0, 0), 2) else if U.kindOf (upV U n s) = 2 ∧ opq U (upV U n s) = false ∧ L.kindOf (lowV U L n s) = 2 then ((upV U n s, lowV U L n s), 0) else ((upV U n s, 0), 0))
   else if lowV U L n s = 0 ∨ L.kindOf (lowV U L n s) = 4 then ((0, 0), 2) else ((0, lowV U L n s), 0) := by
 have hl : lstV U L n = 0 := by unfold lstV; rw [hk]; rfl
 have hp : pairV U L n s = (upV U n s, lowV U L n s) := by rw [upV_is, lowV_is]; rfl
 have hz : upV U n s = 0 ↔ U.kindOf (upV U n s) = 0 := by rw [upV_is]; exact (get_kind hU n.1 s).symm
 unfold getV
 rw [if_neg (by rw [hl]; decide), hp]
 generalize upV U n s = x at *
 generalize lowV U L n s = y at *
 by_cases hx : x = 0
 ·have hk0 := hz.1 hx
  by_cases h4 : L.kindOf y = 4
  ·have hs : seenV U L (x, y) = (0, 0) := by unfold seenV; dsimp only; rw [if_pos hk0, if_pos h4]
   rw [hs]; simp [hx, h4]
  ·have hs : seenV U L (x, y) = (0, y) := by unfold seenV; dsimp only; rw [if_pos hk0, if_neg h4]
   rw [hs]
   by_cases hy : y = 0
   ·simp [hx, hy]
   ·simp [hx, hy, h4]
 ·have hk0 : U.kindOf x ≠ 0 := fun e => hx (hz.2 e)
  by_cases h4 : U.kindOf x = 4
  ·have hs : seenV U L (x, y) = (0, 0) := by unfold seenV; dsimp only; rw [if_neg hk0, if_pos h4]
   rw [hs]; simp [hx, h4]
  ·by_cases hc : U.kindOf x = 2 ∧ opq U x = false ∧ L.kindOf y = 2
   ·have hs : seenV U L (x, y) = (x, y) := by unfold seenV; dsimp only; rw [if_neg hk0, if_neg h4, if_pos ⟨hc.1, hc.2.2, hc.2.1⟩]
    rw [hs, if_neg (fun e => hx (by injection e)), if_pos hx, if_neg h4, if_pos hc]
   ·have hs : seenV U L (x, y) = (x, 0) := by unfold seenV; dsimp only; rw [if_neg hk0, if_neg h4, if_neg (fun e => hc ⟨e.1, e.2.2, e.2.1⟩)]
    rw [hs, if_neg (fun e => hx (by injection e)), if_pos hx, if_neg h4, if_neg hc]
end Go.Proofs.YtgoddboicjfkcaaGreat.mg
