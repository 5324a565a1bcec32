/- Part 27 of what is known of the program's functions and of the document's words: contracts, and the mathematics beneath them. -/
import Derived.Test.YtpmpbmjjlccbbaaGreatProg
import Derived.Test.YtpmpbmjjlccbbaaGreatZ03
import Derived.Test.YtpmpbmjjlccbbaaGreatZ04
import Derived.Test.YtpmpbmjjlccbbaaGreatZ05
import Derived.Test.YtpmpbmjjlccbbaaGreatZ09
import Derived.Test.YtpmpbmjjlccbbaaGreatZ21
import Derived.Test.YtpmpbmjjlccbbaaGreatZ20
import Derived.Test.YtpmpbmjjlccbbaaGreatZ25
import Derived.Deep.LoopGhost
import Derived.Laws.StructEq
import Derived.Deep.RegionHeld3
import Derived.StillTailTactics
import Derived.Deep.MidRow
import Derived.RegionTactic
import Derived.BigRegion
import Derived.Deep.AppendLies
import Derived.OneCell
import Derived.Test.YtpmpbmjjlccbbaaGreatZ26
import Derived.Defers
import Derived.Recover
set_option linter.unusedVariables false
set_option linter.unusedSimpArgs false
set_option maxRecDepth 100000
set_option maxHeartbeats 8000000
namespace Go.Proofs.YtpmpbmjjlccbbaaGreat.cb
open Go.RowKit
open br
open wk (walkT Tr Rs r0 e0 dot2 dot1 pe pn pd slash)
def walkF (X : Tr) (fol : Bool) : Nat → Nat → Int → List ByteArray → Bool → Option Rs
 | 0, _, _, _, _ => none
 | _ + 1, _, a, [], _ => some ((a, e0, a), 0)
 | f + 1, m, a, n :: r, d =>
  if X.kind a ≠ 2 then some (r0, 20)
  else if n = dot2 then walkF X fol f m (X.parent a) r d
  else if n = dot1 then walkF X fol f m a r d
  else if (X.get a n).2 ≠ 0 then (if (X.get a n).2 = 2 ∧ r = [] then some ((a, n, 0), 2) else some (r0, (X.get a n).2))
  else if X.kind (X.get a n).1 = 3 ∧ (r ≠ [] ∨ fol = true ∨ d = true) then
   if m = 0 then some (r0, 40)
   else if (X.target (X.get a n).1).2 ≠ 0 then some (r0, (X.target (X.get a n).1).2)
    else if pe (X.target (X.get a n).1).1 ≠ 0 then some (r0, pe (X.target (X.get a n).1).1)
    else if 400 < (pn (X.target (X.get a n).1).1).length + r.length then some (r0, 36)
    else walkF X fol f (m - 1) (if slash (X.target (X.get a n).1).1 = true then 1 else a) (pn (X.target (X.get a n).1).1 ++ r) (if r = [] then d || pd (X.target (X.get a n).1).1 else d)
  else if r = [] then (if d = true ∧ X.kind (X.get a n).1 ≠ 2 then some (r0, 20) else some ((a, n, (X.get a n).1), 0))
  else walkF X fol f m (X.get a n).1 r d
theorem walkF_eq {X : Tr} {fol : Bool} {R : Rs} : ∀ (f m : Nat) (a : Int) (ns : List ByteArray) (d : Bool), walkF X fol f m a ns d = some R → walkT X fol m a ns d = R
 | 0, _, _, _, _, h => by cases h
 | f + 1, m, a, [], d, h => by
  rw [wk.w_nil]
  unfold walkF at h
  injection h
 | f + 1, m, a, n :: r, d, h => by
  unfold walkF at h
  rw [walkT]
  split at h
  ·rename_i c; rw [if_pos c]; injection h
  rename_i c; rw [if_neg c]
  split at h
  ·rename_i c; rw [if_pos c]; exact walkF_eq f _ _ _ _ h
  rename_i c; rw [if_neg c]
  split at h
  ·rename_i c; rw [if_pos c]; exact walkF_eq f _ _ _ _ h
  rename_i c; rw [if_neg c]
  split at h
  ·rename_i c; rw [if_pos c]
   split at h
   ·rename_i c; rw [if_pos c]; injection h
   ·rename_i c; rw [if_neg c]; injection h
  rename_i c; rw [if_neg c]
  split at h
  ·rename_i c; rw [if_pos c]
   split at h
   ·rename_i c; rw [if_pos c]; injection h
   rename_i c; rw [if_neg c]
   split at h
   ·rename_i c; rw [if_pos c]; injection h
   rename_i c; rw [if_neg c]
   split at h
   ·rename_i c; rw [if_pos c]; injection h
   rename_i c; rw [if_neg c]
   split at h
   ·rename_i c; rw [if_pos c]; injection h
   rename_i c; rw [if_neg c]
   exact walkF_eq f _ _ _ _ h
  rename_i c; rw [if_neg c]
  split at h
  ·rename_i c; rw [if_pos c]
   split at h
   ·rename_i c; rw [if_pos c]; injection h
   ·rename_i c; rw [if_neg c]; injection h
  rename_i c; rw [if_neg c]
  exact walkF_eq f _ _ _ _ h
end Go.Proofs.YtpmpbmjjlccbbaaGreat.cb
namespace Go.Proofs.YtpmpbmjjlccbbaaGreat.cb
open Go.RowKit Go.Deep
open br
open bl (Pq Only)
open pa (Bs Sv Strs Own OwnE ParseE parse_any pnames_le)
open wk (walkT)
theorem catch_idle (p q : Addr) (w : World) :
  CallsD Tryz.prog 191 #[.pointer (some p), .pointer (some q)] .returning w fun e u' w' => e = .returned (.tuple #[]) ∧ u' = .returning ∧ w' = w := by
 refine callsD_of_wpS Tryz.func191 rfl fun c₀ cs hu => ?_
 apply wpS_seq
 apply wpS_region
 simp [wpOpsS, go_sem, recoverD, hu, Tryz.ntmps191, Exit.thenS]
 refine wpS_cond (t := false) (by simp [Act.eval, Array.replicate]) ?_
 simp only [Bool.false_eq_true, if_false]
 refine wpS_of_wp (wp_skip ?_)
 cases c₀
 simp_all [bodyPostS, results, Tryz.results191]
theorem results_row_cell {fn : Func} {p u : Tmp} (h : fn.results = #[.cell p 212, .cell u 35]) (tmps : Array Value) (w : World) (b b2 : Nat) (x y z e : Value)
  (hp : tmps.getD p undef = .pointer (some ⟨b, 0, none⟩)) (hu : tmps.getD u undef = .pointer (some ⟨b2, 0, none⟩)) (hc : w.rangeAt b 0 [x, y, z]) (hc2 : w.cell? ⟨b2, 0, none⟩ = some e) :
  (results fn tmps).run Tryz.prog w = .ok (.tuple #[.agg #[x, y, z], e]) w := by
 rw [Array.getD_eq_getD_getElem?] at hp hu
 have h1 := run_loadVar_mid (P := Tryz.prog) w b 0 212 [x, y, z] _ hc Tryz.underlying212 (by rfl) (by rfl)
 have h2 : (loadVar 35 ⟨b2, 0, none⟩).run Tryz.prog w = .ok e w := by
  simp [loadVar, go_sem, hc2]
 simp only [results, h]
 simp [Sem.run_bind, Result.andThen, hp, hu, asAddr, h1, h2]
theorem Ctr.mono {w0 w1 : World} {P : Nat} {S : BS} (h : Ctr w0 P S) (hb : Below w0.heap.size w0 w1) : Ctr w1 P S :=
 ⟨fun w2 i h2 => h.kind w2 i (dn.below_step hb h2), fun w2 a n h2 => h.get w2 a n (dn.below_step hb h2), fun w2 i h2 => h.parent w2 i (dn.below_step hb h2), fun w2 i h2 => h.target w2 i (dn.below_step hb h2)⟩
def TopE (w : World) (R : wk.Rs) (e : Ending) (w' : World) : Prop := e = .returned (FoundV R) ∧ Below w.heap.size w w'
theorem top_any {w : World} {P n c : Nat} {A : Option Addr} {ns : List Bs} {d fol : Bool} {S : BS} (hC : Ctr w P S) (hn : n = ns.length) (hl : n ≤ 400) (hc : n ≤ c) (hs : Strs w w.heap.size A ns) :
  Calls Tryz.prog 161 #[.iface 26 (Pq P), .agg #[.slice A n c, .bool d], .bool fol] w (TopE w (walkT (trS S) fol 40 1 (nsB ns) d)) := by
 subst hn
 have hmf : ∀ (fn : Fn) (first cap : Array Value) (W : World), (Instr.makeFunc fn first cap).run Tryz.prog W = .ok (.func fn first cap) W := fun _ _ _ _ => rfl
 obtain ⟨b, hb⟩ : ∃ b, w.heap.size = b := ⟨_, rfl⟩
 obtain ⟨w1, hw1⟩ : ∃ w1, w.alloc (.cells #[.slice A ns.length c, .bool d] 149) = w1 := ⟨_, rfl⟩
 obtain ⟨w2, hw2⟩ : ∃ w2, w1.alloc (.cells #[.int .i64 0, .string ⟨#[]⟩, .int .i64 0] 212) = w2 := ⟨_, rfl⟩
 obtain ⟨w3, hw3⟩ : ∃ w3, w2.alloc (.cells #[.int .i64 0] 35) = w3 := ⟨_, rfl⟩
 have s1 : w1.heap.size = b + 1 := by rw [← hw1, World.size_alloc, hb]
 have s2 : w2.heap.size = b + 2 := by rw [← hw2, World.size_alloc, s1]
 have s3 : w3.heap.size = b + 3 := by rw [← hw3, World.size_alloc, s2]
 have b1 : Below w.heap.size w w1 := by rw [← hw1]; exact dn.below_alloc w _
 have b2 : Below w1.heap.size w1 w2 := by rw [← hw2]; exact dn.below_alloc w1 _
 have b3 : Below w2.heap.size w2 w3 := by rw [← hw3]; exact dn.below_alloc w2 _
 have HB3 := Lib.hid (dn.below_step (dn.below_step b1 b2) b3)
 have q1 : w3.heap[b]? = some (.cells #[.slice A ns.length c, .bool d] 149 (0, 0)) := by
  rw [b3.block b (by omega), b2.block b (by omega), ← hw1, ← hb]; exact heap_alloc_new w _
 have HQ2 := Lib.hid (show w3.heap[b + 1]? = some (.cells #[.int .i64 0, .string ⟨#[]⟩, .int .i64 0] 212 (0, 0)) by
  rw [b3.block (b + 1) (by omega), ← hw2, ← s1]; exact heap_alloc_new w1 _)
 have HQ3 := Lib.hid (show w3.heap[b + 2]? = some (.cells #[.int .i64 0] 35 (0, 0)) by rw [← hw3, ← s2]; exact heap_alloc_new w2 _)
 have c0 : w3.cell? ⟨b, 0, none⟩ = some (.slice A ns.length c) := by rw [cell_row q1]; rfl
 have c1 : w3.cell? ⟨b, 1, none⟩ = some (.bool d) := by rw [cell_row q1]; rfl
 have HST := Lib.hid (show ∀ ob, Nms (w3.alloc ob) w3.heap.size A ns from fun ob hn => by
  obtain ⟨ad, e, h1, h2⟩ := hs hn
  have hb4 := dn.below_step HB3.out (dn.below_alloc w3 ob)
  exact ⟨ad, e, by omega, by rw [World.size_alloc]; omega, fun j x hx => (hb4.cell (p := ad.add j) (by rw [pa.addr_block]; omega)).trans (h2 j x hx)⟩)
 have HW := Lib.hid (show Wbx (w3.alloc (.cells #[.iface 26 (Pq P), .int .i64 1, .slice A ns.length c, .bool d, .bool fol, .int .i64 0] 235)) w3.heap.size P 1 A c ns d fol 0 from
  ⟨by simp, by simp, by simp, by simp, by simp, by simp, fun j => by simp, HST.out _, hc⟩)
 have HK := Lib.hid (walk_any (w0 := w3) HW.out (dn.below_alloc w3 _) (Nat.le_refl _) (hC.mono HB3.out) hl)
 unfold WalkE at HK
 obtain ⟨R, hR⟩ : ∃ R, walkT (trS S) fol 40 1 (nsB ns) d = R := ⟨_, rfl⟩
 rw [hR] at HK ⊢
 obtain ⟨⟨xa, xn, xi⟩, xe⟩ := R
 unfold FoundV at HK
 dsimp only at HK
 rw [s3] at HK
 clear hR HW HST hC hs q1 b1 b2 b3
 go_enter_defers Tryz.func161, Tryz.ntmps161
 go_wp2_with fail
 refine HK.out.mono ?_
 rintro _ w5 ⟨rfl, hb5⟩
 rw [← s3] at hb5
 have r1 := (hb5.block (b + 1) (by omega)).trans HQ2.out
 have r2 := (hb5.block (b + 2) (by omega)).trans HQ3.out
 have x0 : w5.cell? ⟨b + 1, 0, none⟩ = some (.int .i64 0) := by rw [cell_row r1]; rfl
 have x1 : w5.cell? ⟨b + 1, 1, none⟩ = some (.string ⟨#[]⟩) := by rw [cell_row r1]; rfl
 have x2 : w5.cell? ⟨b + 1, 2, none⟩ = some (.int .i64 0) := by rw [cell_row r1]; rfl
 have x3 : w5.cell? ⟨b + 2, 0, none⟩ = some (.int .i64 0) := by rw [cell_row r2]; rfl
 have y0 : w5.frozen? ⟨b + 1, 0, none⟩ = false := by simp [World.frozen?, r1]
 have y1 : w5.frozen? ⟨b + 1, 1, none⟩ = false := by simp [World.frozen?, r1]
 have y2 : w5.frozen? ⟨b + 1, 2, none⟩ = false := by simp [World.frozen?, r1]
 have y3 : w5.frozen? ⟨b + 2, 0, none⟩ = false := by simp [World.frozen?, r2]
 have HS := Lib.hid (box_set3 (w := w) (t := 212) (m := (0, 0)) (B := b + 1) (by omega) r1 (dn.below_step HB3.out hb5) (.int .i64 xa) (.string xn) (.int .i64 xi))
 clear r1 r2 hb5 HQ2 HQ3
 go_wp2_with fail
 obtain ⟨hx, hy⟩ := HS.out
 have hz : (((w5.setCell ⟨b + 1, 0, none⟩ (.int .i64 xa)).setCell ⟨b + 1, 1, none⟩ (.string xn)).setCell ⟨b + 1, 2, none⟩ (.int .i64 xi)).cell? ⟨b + 2, 0, none⟩ = some (.int .i64 0) := (oth3 (by omega) _ _ _).trans x3
 have hne : ∀ j, (⟨b + 2, 0, none⟩ : Addr) ≠ ⟨b + 1, j, none⟩ := fun j e => by injection e with e; omega
 refine leaves_cons (f := 191) (args := #[.pointer (some ⟨b + 1, 0, none⟩), .pointer (some ⟨b + 2, 0, none⟩)]) (by simp) (by simp [go_sem]) ?_
 refine (catch_idle ⟨b + 1, 0, none⟩ ⟨b + 2, 0, none⟩ _).mono ?_
 rintro e u' w'' ⟨rfl, rfl, rfl⟩
 refine ⟨_, results_row_cell rfl _ _ (b + 1) (b + 2) (.int .i64 xa) (.string xn) (.int .i64 xi) (.int .i64 xe) rfl rfl ?_ ?_, ?_⟩
 ·exact fun j v hv => (World.cell?_setCell_other _ _ _ _ (by intro e; injection e with e; omega)).trans (hx j v hv)
 ·exact World.cell?_setCell_same _ _ _ hz
 ·exact ⟨rfl, hy.setCell (show w.heap.size ≤ (⟨b + 2, 0, none⟩ : Addr).block by show w.heap.size ≤ b + 2; omega) _⟩
end Go.Proofs.YtpmpbmjjlccbbaaGreat.cb
namespace Go.Proofs.YtpmpbmjjlccbbaaGreat.cb
open Go.RowKit Go.Deep
open br
open bl (Pq Only)
open pa (Bs Sv)
open wk (walkT)
theorem BrX.ctr {w0 w : World} {P room T : Nat} {X : Nat → Prop} {S : BS} (h : BrX w0 w P X S room T) : Ctr w P S :=
 ⟨fun w2 i hb => x_kind (h.below hb) i, fun w2 a n hb => x_get (h.below hb) a n, fun w2 i hb => x_parent (h.below hb) i, fun w2 i hb => x_target (h.below hb) i⟩
def AwakeE (w : World) (e : Ending) (w' : World) : Prop := e = .returned (.bool true) ∧ Below w.heap.size w w'
end Go.Proofs.YtpmpbmjjlccbbaaGreat.cb
