/- Part 37 of what is known of the program's functions and of the document's words: contracts, and the mathematics beneath them. -/
import Derived.Test.YtgoddboicjfkcaaGreatProg
import Derived.Test.YtgoddboicjfkcaaGreatZ23
import Derived.Test.YtgoddboicjfkcaaGreatZ33
import Derived.Test.YtgoddboicjfkcaaGreatZ36
set_option linter.unusedVariables false
set_option linter.unusedSimpArgs false
set_option maxRecDepth 100000
set_option maxHeartbeats 8000000
namespace Go.Proofs.YtgoddboicjfkcaaGreat.mg
open Go.RowKit
open dn (En lget lset ldel nerr dotB Sorted lessB)
open br (BS Ino Inv fresh)
open cb (Act7 Run Step StepB WrI sF)
open bl (Pq WR IsStop)
abbrev zE : ByteArray := ⟨#[]⟩
abbrev zA : ByteArray := ⟨#[97]⟩
abbrev zB : ByteArray := ⟨#[98]⟩
abbrev zC : ByteArray := ⟨#[99]⟩
abbrev zL : ByteArray := ⟨#[108]⟩
abbrev zT : ByteArray := ⟨#[116]⟩
abbrev zX : ByteArray := ⟨#[120]⟩
abbrev zY : ByteArray := ⟨#[121]⟩
abbrev zH : ByteArray := ⟨#[104, 105]⟩
def aU : BS := (((fresh.make 1 zA 2 zE).2.make 2 zX 1 zE).2.make 1 zB 4 zE).2
def aL4 : BS := ((((fresh.make 1 zA 2 zE).2.make 2 zY 1 zE).2.make 1 zB 1 zE).2.make 1 zC 1 zE).2
def aL5 : BS := aL4.wrote 5 0 2 (sF zH)
def aL : BS := (aL5.make 1 zL 3 zT).2
def awF : Nat → Act7
 | 0 => ⟨false, 0, 1, 0, 2, zA, zE⟩
 | 1 => ⟨false, 0, 2, 0, 1, zX, zE⟩
 | 2 => ⟨false, 0, 1, 0, 4, zB, zE⟩
 | 3 => ⟨true, 0, 1, 0, 2, zA, zE⟩
 | 4 => ⟨true, 0, 2, 0, 1, zY, zE⟩
 | 5 => ⟨true, 0, 1, 0, 1, zB, zE⟩
 | 6 => ⟨true, 0, 1, 0, 1, zC, zE⟩
 | 7 => ⟨true, 4, 5, 0, 0, zE, zH⟩
 | _ => ⟨true, 0, 1, 0, 3, zL, zT⟩
theorem up_make {x : Act7} {U L U' L' : BS} (h : Step x U L U' L') (hl : x.low = false) (hk : x.kind = 0) : U' = (U.make x.d x.a x.n x.b).2 ∧ L' = L := ⟨(h.2 hl).2.1 hk, (h.2 hl).1⟩
theorem low_make {x : Act7} {U L U' L' : BS} (h : Step x U L U' L') (hl : x.low = true) (hk : x.kind = 0) : L' = (L.make x.d x.a x.n x.b).2 ∧ U' = U := ⟨(h.1 hl).2.1 hk, (h.1 hl).1⟩
theorem l4_body : (aL4.at 5).body = br.abE := by kernel_rfl
theorem l4_used : aL4.used = 0 := by kernel_rfl
theorem l4_file : aL4.fileE 5 = 0 := by decide +kernel
theorem wrote_hi {p : Nat} {err : Int} {S' : BS} (h : WrI aL4 500 5 0 zH.size (sF zH) p err S') : S' = aL5 := by
 rcases h with ⟨h, _⟩ | ⟨_, h, _, _, rfl⟩
 ·exact absurd l4_file h
 ·have : p = 2 := by
   rcases h with ⟨h, _⟩ | ⟨_, h, _⟩ | ⟨h, _⟩ | ⟨_, _, _, hs, _⟩
   ·exact absurd h (by decide)
   ·exact absurd h (by decide)
   ·exact absurd h (by decide)
   ·rw [l4_body, l4_used] at hs
    exact hs.eq ⟨by decide, fun q hq => .inr (by
     rcases q with _ | _ | q
     ·decide +kernel
     ·decide +kernel
     ·omega), .inl (by decide)⟩
  rw [this]; rfl
theorem aw_run {U L : BS} (h : Run awF 9 U L) : U = aU ∧ L = aL := by
 obtain ⟨U8, L8, ⟨U7, L7, ⟨U6, L6, ⟨U5, L5, ⟨U4, L4, ⟨U3, L3, ⟨U2, L2, ⟨U1, L1, ⟨U0, L0, ⟨rfl, rfl⟩, s0⟩, s1⟩, s2⟩, s3⟩, s4⟩, s5⟩, s6⟩, s7⟩, s8⟩ := h
 obtain ⟨rfl, rfl⟩ := up_make s0 rfl rfl
 obtain ⟨rfl, rfl⟩ := up_make s1 rfl rfl
 obtain ⟨rfl, rfl⟩ := up_make s2 rfl rfl
 obtain ⟨rfl, rfl⟩ := low_make s3 rfl rfl
 obtain ⟨rfl, rfl⟩ := low_make s4 rfl rfl
 obtain ⟨rfl, rfl⟩ := low_make s5 rfl rfl
 obtain ⟨rfl, rfl⟩ := low_make s6 rfl rfl
 obtain ⟨rfl, hs⟩ := s7.1 rfl
 obtain ⟨p, err, hw⟩ := hs.2.2.2.2.1 rfl
 obtain rfl := wrote_hi hw
 obtain ⟨rfl, rfl⟩ := low_make s8 rfl rfl
 exact ⟨rfl, rfl⟩
theorem allV_is {U L : BS} {n : Nd} {r1 r2 : Nat} {l : List ByteArray} (hU : Inv U r1) (hL : Inv L r2) (hl : lstV U L n = 0) (h : AllV U L n l) (l0 : List ByteArray) (r0 : l0.Pairwise fun a b => lessB a b = true) (h1 : ∀ s, s ∈ l0 → (getV U L n s).2 = 0)
  (h2 : ((U.all n.1).1 ++ (L.all (belV U n)).1).all (fun e => l0.any (fun x => decide (x = e.1)) || decide ((getV U L n e.1).2 ≠ 0)) = true) : l = l0 := by
 refine rise_ext h.rise r0 fun s => ⟨fun hs => ?_, fun hs => (h.mem s).2 (h1 s hs)⟩
 have hg := (h.mem s).1 hs
 obtain ⟨p, e, _⟩ := (seen_names hU hL n s hl).1 hg
 unfold pairF at e
 rw [fold2 _ _ _ (all_sorted hL _), fold1 _ _ _ (all_sorted hU _)] at e
 have hm : ∃ v, (s, v) ∈ (U.all n.1).1 ++ (L.all (belV U n)).1 := by
  cases e1 : lget s (L.all (belV U n)).1 with
  | some v => exact ⟨v, List.mem_append.2 (.inr ((dn.lget_some (all_sorted hL _)).1 e1))⟩
  | none =>
   rw [e1] at e
   cases e2 : lget s (U.all n.1).1 with
   | some v => exact ⟨v, List.mem_append.2 (.inl ((dn.lget_some (all_sorted hU _)).1 e2))⟩
   | none => rw [e2] at e; cases e
 obtain ⟨v, hv⟩ := hm
 have h4 := List.all_eq_true.1 h2 (s, v) hv
 simp only [Bool.or_eq_true, decide_eq_true_eq, List.any_eq_true] at h4
 rcases h4 with ⟨x, hx, h3⟩ | h3
 ·exact h3 ▸ hx
 ·exact absurd hg h3
theorem aw_root : rootV aU aL 1 1 = (1, 1) := by decide +kernel
theorem aw_a : getV aU aL (1, 1) zA = ((2, 2), 0) := by decide +kernel
theorem aw_b : getV aU aL (1, 1) zB = ((0, 0), 2) := by decide +kernel
theorem aw_c : getV aU aL (1, 1) zC = ((0, 5), 0) := by decide +kernel
theorem aw_l : getV aU aL (1, 1) zL = ((0, 6), 0) := by decide +kernel
theorem aw_k : kindV aU aL (2, 2) = 2 := by decide +kernel
theorem aw_lst : lstV aU aL (2, 2) = 0 := by decide +kernel
theorem aw_t : targN aU aL (0, 6) = (zT, 0) := by decide +kernel
theorem aw_kc : kindV aU aL (0, 5) ≠ 0 := by decide +kernel
theorem aw_rd : cb.readI aL 5 0 9 = (0, 2) := by decide +kernel
theorem aw_hi : bl.strF 2 (fun j => (aL.at 5).body.dat ((0 : Int).toNat + j)) = zH := by decide +kernel
theorem aw_all {r1 r2 : Nat} {l : List ByteArray} (hU : Inv aU r1) (hL : Inv aL r2) (h : AllV aU aL (2, 2) l) : l.length = 2 := by
 rw [allV_is hU hL aw_lst h [zX, zY] (by decide +kernel) (by decide +kernel) (by decide +kernel)]; rfl
theorem aw_lst1 : lstV aU aL (1, 1) = 0 := by decide +kernel
theorem aw_names {r1 r2 : Nat} {l : List ByteArray} (hU : Inv aU r1) (hL : Inv aL r2) (h : AllV aU aL (1, 1) l) : l.length = 3 := by
 rw [allV_is hU hL aw_lst1 h [zA, zC, zL] (by decide +kernel) (by decide +kernel) (by decide +kernel)]; rfl
theorem aw_stat : statN aU aL (1, 1) 3 = ((2, 3, 1), 0) := by decide +kernel
end Go.Proofs.YtgoddboicjfkcaaGreat.mg
namespace Go.Proofs.YtgoddboicjfkcaaGreat.mg
open Go.RowKit
open br (BS Ino Inv fresh)
open cb (BrX RetW RetI No Act7 Acts Run Bt BuildR build_run ReadI)
open bl (Pq Only)
def AwakeE (w : World) (e : Ending) (w' : World) : Prop := e = .returned (.bool true) ∧ Below w.heap.size w w'
theorem _root_.Go.Proofs.YtgoddboicjfkcaaGreat.bl.Row.below {w w' : World} {lo n c : Nat} {A : Option Addr} {f : Nat → UInt8} (h : bl.Row w lo A n c f) (hb : Below w.heap.size w w') : bl.Row w' lo A n c f :=
 ⟨h.1, h.2.imp id fun ⟨g, a, b, d⟩ => ⟨g, a, b, (hb.block g (Array.getElem?_eq_some_iff.1 d).1).trans d⟩⟩
theorem Bt.below {w0 w w' : World} {G : Nat} {p : cb.Pt} {U L : BS} (h : Bt w0 w G p U L) (hb : Below w.heap.size w w') : Bt w0 w' G p U L :=
 ⟨h.q.below hb, (hb.cell (p := ⟨G, 0, none⟩) (h.q.lt rfl)).trans h.c0, (hb.cell (p := ⟨G, 1, none⟩) (h.q.lt rfl)).trans h.c1, (hb.cell (p := ⟨G, 2, none⟩) (h.q.lt rfl)).trans h.c2, (hb.cell (p := ⟨G, 3, none⟩) (h.q.lt rfl)).trans h.c3⟩
theorem Bt.good1 {w0 w : World} {G : Nat} {p : cb.Pt} {U L : BS} (h : Bt w0 w G p U L) : Inv U 500 := h.q.good1.1
theorem Bt.good2 {w0 w : World} {G : Nat} {p : cb.Pt} {U L : BS} (h : Bt w0 w G p U L) : Inv L 500 := h.q.good2.1
theorem new_vx {w w0 w2 : World} {P1 P2 : Nat} {U L : BS} {q1 T1 q2 T2 : Nat} (h1 : BrX w0 w P1 No U q1 T1) (h2 : BrX w2 w P2 No L q2 T2) (u l : Int) : Calls Tryz.prog 14 #[Pq P1, Pq P2, .int .i64 u, .int .i64 l] w (fun e w' => ∃ V, e = .returned (Pq V) ∧ Vx w' V P1 P2 u l U L ∧ Below w.heap.size w w') :=
 (new_any P1 P2 u l w).mono fun e w' ⟨he, hw⟩ => ⟨_, he, by rw [hw]; exact Vx.made h1 h2, by rw [hw]; exact bel_alloc _ _⟩
theorem Bt.new {w0 w : World} {G : Nat} {p : cb.Pt} {U L : BS} (h : Bt w0 w G p U L) (u l : Int) : Calls Tryz.prog 14 #[Pq p.P1, Pq p.P2, .int .i64 u, .int .i64 l] w (fun e w' => ∃ V, e = .returned (Pq V) ∧ Vx w' V p.P1 p.P2 u l U L ∧ Below w.heap.size w w') := new_vx h.q.brx1 h.q.brx2 u l
theorem aw_acts (w w1 : World) (hw1 : w.alloc (.cells #[.bool false, .int .i64 0, .int .i64 1, .int .i64 0, .int .i64 2, .string ⟨#[97]⟩, .string ⟨#[]⟩, .bool false, .int .i64 0, .int .i64 2, .int .i64 0, .int .i64 1, .string ⟨#[120]⟩, .string ⟨#[]⟩, .bool false, .int .i64 0, .int .i64 1, .int .i64 0, .int .i64 4, .string ⟨#[98]⟩, .string ⟨#[]⟩, .bool true, .int .i64 0, .int .i64 1, .int .i64 0, .int .i64 2, .string ⟨#[97]⟩, .string ⟨#[]⟩, .bool true, .int .i64 0, .int .i64 2, .int .i64 0, .int .i64 1, .string ⟨#[121]⟩, .string ⟨#[]⟩, .bool true, .int .i64 0, .int .i64 1, .int .i64 0, .int .i64 1, .string ⟨#[98]⟩, .string ⟨#[]⟩, .bool true, .int .i64 0, .int .i64 1, .int .i64 0, .int .i64 1, .string ⟨#[99]⟩, .string ⟨#[]⟩, .bool true, .int .i64 4, .int .i64 5, .int .i64 0, .int .i64 0, .string ⟨#[]⟩, .string ⟨#[104, 105]⟩, .bool true, .int .i64 0, .int .i64 1, .int .i64 0, .int .i64 3, .string ⟨#[108]⟩, .string ⟨#[116]⟩] 107) = w1) : Acts w1 w1.heap.size (some ⟨w.heap.size, 0, none⟩) 9 awF := by
 have hlt : w.heap.size < w1.heap.size := by rw [← hw1, World.size_alloc]; omega
 intro i hi
 refine ⟨w.heap.size, 0, rfl, hlt, ?_⟩
 subst hw1
 match i, hi with
 | 0, _ => exact ⟨by simp [awF], by simp [awF], by simp [awF], by simp [awF], by simp [awF], by simp [awF], by simp [awF], by decide, by decide⟩
 | 1, _ => exact ⟨by simp [awF], by simp [awF], by simp [awF], by simp [awF], by simp [awF], by simp [awF], by simp [awF], by decide, by decide⟩
 | 2, _ => exact ⟨by simp [awF], by simp [awF], by simp [awF], by simp [awF], by simp [awF], by simp [awF], by simp [awF], by decide, by decide⟩
 | 3, _ => exact ⟨by simp [awF], by simp [awF], by simp [awF], by simp [awF], by simp [awF], by simp [awF], by simp [awF], by decide, by decide⟩
 | 4, _ => exact ⟨by simp [awF], by simp [awF], by simp [awF], by simp [awF], by simp [awF], by simp [awF], by simp [awF], by decide, by decide⟩
 | 5, _ => exact ⟨by simp [awF], by simp [awF], by simp [awF], by simp [awF], by simp [awF], by simp [awF], by simp [awF], by decide, by decide⟩
 | 6, _ => exact ⟨by simp [awF], by simp [awF], by simp [awF], by simp [awF], by simp [awF], by simp [awF], by simp [awF], by decide, by decide⟩
 | 7, _ => exact ⟨by simp [awF], by simp [awF], by simp [awF], by simp [awF], by simp [awF], by simp [awF], by simp [awF], by decide, by decide⟩
 | 8, _ => exact ⟨by simp [awF], by simp [awF], by simp [awF], by simp [awF], by simp [awF], by simp [awF], by simp [awF], by decide, by decide⟩
 | i + 9, h => omega
theorem awake_any (w : World) : Calls Tryz.prog 12 #[] w (AwakeE w) := by
 obtain ⟨w1, hw1⟩ : ∃ w1, w.alloc (.cells #[.bool false, .int .i64 0, .int .i64 1, .int .i64 0, .int .i64 2, .string ⟨#[97]⟩, .string ⟨#[]⟩, .bool false, .int .i64 0, .int .i64 2, .int .i64 0, .int .i64 1, .string ⟨#[120]⟩, .string ⟨#[]⟩, .bool false, .int .i64 0, .int .i64 1, .int .i64 0, .int .i64 4, .string ⟨#[98]⟩, .string ⟨#[]⟩, .bool true, .int .i64 0, .int .i64 1, .int .i64 0, .int .i64 2, .string ⟨#[97]⟩, .string ⟨#[]⟩, .bool true, .int .i64 0, .int .i64 2, .int .i64 0, .int .i64 1, .string ⟨#[121]⟩, .string ⟨#[]⟩, .bool true, .int .i64 0, .int .i64 1, .int .i64 0, .int .i64 1, .string ⟨#[98]⟩, .string ⟨#[]⟩, .bool true, .int .i64 0, .int .i64 1, .int .i64 0, .int .i64 1, .string ⟨#[99]⟩, .string ⟨#[]⟩, .bool true, .int .i64 4, .int .i64 5, .int .i64 0, .int .i64 0, .string ⟨#[]⟩, .string ⟨#[104, 105]⟩, .bool true, .int .i64 0, .int .i64 1, .int .i64 0, .int .i64 3, .string ⟨#[108]⟩, .string ⟨#[116]⟩] 107) = w1 := ⟨_, rfl⟩
 have HB1 := Lib.hid (show Below w.heap.size w w1 by rw [← hw1]; exact bel_alloc _ _)
 have HBL := Lib.hid (build_run (some ⟨w.heap.size, 0, none⟩) 9 9 awF w1 w1 (by unfold maxLen; omega) (aw_acts w w1 hw1) (Below.refl _ _))
 unfold BuildR at HBL
 go_enter Tryz.func12, Tryz.ntmps12
 go_wp2_with fail
 refine HBL.out.mono ?_
 rintro _ w2 (⟨v, rfl, hb2, i, hi, hbig⟩ | ⟨G, p, U, L, rfl, h2, hr⟩)
 ·exfalso
  match i, hi with
  | 0, _ => exact absurd hbig (by decide)
  | 1, _ => exact absurd hbig (by decide)
  | 2, _ => exact absurd hbig (by decide)
  | 3, _ => exact absurd hbig (by decide)
  | 4, _ => exact absurd hbig (by decide)
  | 5, _ => exact absurd hbig (by decide)
  | 6, _ => exact absurd hbig (by decide)
  | 7, _ => exact absurd hbig (by decide)
  | 8, _ => exact absurd hbig (by decide)
  | i + 9, h => omega
 obtain ⟨rfl, rfl⟩ := aw_run hr
 have H2 := Lib.hid h2
 have HB2 := Lib.hid (bel_step HB1.out h2.q.bel)
 clear hw1 HBL h2 hr
 obtain ⟨-, c0, c1, -, -⟩ := H2.out
 go_wp2_with fail
 go_region_held3 (fun w' => w'.cell? ⟨G, 0, none⟩ = some (Pq p.P1) ∧ w'.cell? ⟨G, 1, none⟩ = some (Pq p.P2))
  (first | exact ⟨c0, c1⟩ | exact S8 | assumption | go_keep)
  (first | (go_at_call 14; ((with_reducible refine (Bt.new (Bt.below H2.out (Below.refl w2.heap.size w2).drew) 1 1).mono ?_); rintro _ w3 ⟨V, rfl, hv3, hb3⟩; have HS3 := Lib.hid ((Below.refl w2.heap.size w2).drew.trans hb3); have HV3 := Lib.hid hv3; have H3 := Lib.hid (Bt.below H2.out HS3.out); have S8 := And.intro H3.out.c0 H3.out.c1)))
 all_goals
  clear c0 c1 S8 hv3 hb3 HS3
  have HB3 := Lib.hid (show Below w.heap.size w w3 from bel_step HB1.out H3.out.q.bel)
  have HI := Lib.hid (And.intro (Bt.good1 H2.out) (Bt.good2 H2.out))
  have HRT := Lib.hid (show ∀ W, Below w3.heap.size w3 W → Calls Tryz.prog 15 #[Pq V] W (fun e w' => e = .returned (Nv (1, 1)) ∧ Below W.heap.size W w') from fun W hb => by have := root_any (HV3.out.below hb); rw [aw_root] at this; exact this)
  have HGA := Lib.hid (show ∀ W, Below w3.heap.size w3 W → Calls Tryz.prog 17 #[Pq V, Nv (1, 1), .string ⟨#[97]⟩] W (fun e w' => e = .returned (.tuple #[Nv (2, 2), .int .i64 0]) ∧ Below W.heap.size W w') from fun W hb => by have := get_any (HV3.out.below hb) (1, 1) zA; rw [aw_a] at this; exact this)
  have HGB := Lib.hid (show ∀ W, Below w3.heap.size w3 W → Calls Tryz.prog 17 #[Pq V, Nv (1, 1), .string ⟨#[98]⟩] W (fun e w' => e = .returned (.tuple #[Nv (0, 0), .int .i64 2]) ∧ Below W.heap.size W w') from fun W hb => by have := get_any (HV3.out.below hb) (1, 1) zB; rw [aw_b] at this; exact this)
  have HGC := Lib.hid (show ∀ W, Below w3.heap.size w3 W → Calls Tryz.prog 17 #[Pq V, Nv (1, 1), .string ⟨#[99]⟩] W (fun e w' => e = .returned (.tuple #[Nv (0, 5), .int .i64 0]) ∧ Below W.heap.size W w') from fun W hb => by have := get_any (HV3.out.below hb) (1, 1) zC; rw [aw_c] at this; exact this)
  have HGL := Lib.hid (show ∀ W, Below w3.heap.size w3 W → Calls Tryz.prog 17 #[Pq V, Nv (1, 1), .string ⟨#[108]⟩] W (fun e w' => e = .returned (.tuple #[Nv (0, 6), .int .i64 0]) ∧ Below W.heap.size W w') from fun W hb => by have := get_any (HV3.out.below hb) (1, 1) zL; rw [aw_l] at this; exact this)
  have HAL := Lib.hid (show ∀ W, Below w3.heap.size w3 W → Calls Tryz.prog 21 #[Pq V, Nv (2, 2)] W (fun e w' => ∃ A c, e = .returned (.tuple #[.slice A 2 c, .int .i64 0]) ∧ Below W.heap.size W w') from fun W hb => (all_any (HV3.out.below hb) HI.out.1 HI.out.2 (2, 2)).mono fun e w' ⟨A, c, l, he, hal, _, _, _, _, hb2⟩ => ⟨A, c, by rw [he, aw_lst, aw_all HI.out.1 HI.out.2 hal], hb2⟩)
  have HST := Lib.hid (show ∀ W, Below w3.heap.size w3 W → Calls Tryz.prog 23 #[Pq V, Nv (1, 1)] W (fun e w' => e = .returned (.tuple #[.agg #[.int .i64 2, .int .i64 3, .int .i64 1], .int .i64 0]) ∧ Below W.heap.size W w') from fun W hb => (stat_any (HV3.out.below hb) HI.out.1 HI.out.2 (1, 1)).mono fun e w' ⟨l, hal, he, hb2⟩ => ⟨by rw [he, aw_names HI.out.1 HI.out.2 hal, show ((3 : Nat) : Int) = 3 from rfl, aw_stat], hb2⟩)
  have HTG := Lib.hid (show ∀ W, Below w3.heap.size w3 W → Calls Tryz.prog 26 #[Pq V, Nv (0, 6)] W (fun e w' => e = .returned (.tuple #[.string ⟨#[116]⟩, .int .i64 0]) ∧ Below W.heap.size W w') from fun W hb => by have := target_any (HV3.out.below hb) (0, 6); rw [aw_t] at this; exact this)
  have HKD := Lib.hid (show ∀ W, Below w3.heap.size w3 W → Calls Tryz.prog 19 #[Pq V, Nv (2, 2)] W (fun e w' => e = .returned (.int .i64 2) ∧ Below W.heap.size W w') from fun W hb => by have := kind_any (HV3.out.below hb) (2, 2); rw [aw_k] at this; exact this)
  have HRD := Lib.hid (show ∀ W, Below w3.heap.size w3 W → Calls Tryz.prog 28 #[Pq V, Nv (0, 5), .int .i64 0, .int .i64 9] W (fun e w' => ∃ A c, e = .returned (.tuple #[.slice A 2 c, .int .i64 0]) ∧ bl.Row w' W.heap.size A 2 c (fun j => (aL.at 5).body.dat ((0 : Int).toNat + j)) ∧ Below W.heap.size W w') from fun W hb => (read_any (HV3.out.below hb) (0, 5) 0 9).mono fun e w' h => by
   rcases h with ⟨h, _⟩ | ⟨_, A, c, he, hr, hb2⟩
   ·exact absurd h aw_kc
   ·rw [show readN aU aL (0, 5) = (aL, 5) from rfl] at he hr
    dsimp only at he hr
    rw [aw_rd] at he hr
    exact ⟨A, c, he, hr, hb2⟩)
  have HNL := Lib.hid (fun W => new_nil p.P2 1 1 W)
  clear HV3 HI H2 HB2 HB1
  obtain ⟨-, c0, c1, -, -⟩ := H3.out
  go_wp2_with fail
  refine (HNL.out _).mono ?_
  rintro _ wz ⟨rfl, hwz⟩
  rw [hwz]
  clear hwz
  clear HNL c0 c1 H3
  have HBz := Lib.hid (Below.refl w3.heap.size w3)
  go_wp2_with fail
  refine (HRT.out _ HBz.out).mono ?_
  rintro _ w4 ⟨rfl, hb4⟩
  have HC4 := Lib.hid (bel_step HBz.out hb4)
  clear hb4
  go_wp2_with fail
  refine (HGA.out _ HC4.out).mono ?_
  rintro _ w5 ⟨rfl, hb5⟩
  have HC5 := Lib.hid (bel_step HC4.out hb5)
  clear hb5
  obtain ⟨w6, hw6⟩ : ∃ w6, w5.alloc (.cells #[.int .i64 2, .int .i64 2] 24) = w6 := ⟨_, rfl⟩
  have hb6 : Below w5.heap.size w5 w6 := by rw [← hw6]; exact bel_alloc _ _
  have HC6 := Lib.hid (bel_step HC5.out hb6)
  have HNA6 := Lib.hid (show Nb w6 w5.heap.size (2, 2) by rw [← hw6]; exact Nb.new w5 2 2)
  obtain ⟨ga, hga⟩ : ∃ g, w5.heap.size = g := ⟨_, rfl⟩
  rw [hga] at HNA6
  clear hb6
  obtain ⟨a0, a1⟩ := HNA6.out
  try dsimp only at a0 a1
  go_wp2_with fail
  refine (HAL.out _ HC6.out).mono ?_
  rintro _ w7 ⟨A6, c6, rfl, hb7⟩
  have HC7 := Lib.hid (bel_step HC6.out hb7)
  have HNA7 := Lib.hid (HNA6.out.below hb7)
  clear hb7
  clear a0 a1
  go_wp2_with fail
  refine (HRT.out _ HC7.out).mono ?_
  rintro _ w8 ⟨rfl, hb8⟩
  have HC8 := Lib.hid (bel_step HC7.out hb8)
  have HNA8 := Lib.hid (HNA7.out.below hb8)
  clear hb8
  go_wp2_with fail
  refine (HGB.out _ HC8.out).mono ?_
  rintro _ w9 ⟨rfl, hb9⟩
  have HC9 := Lib.hid (bel_step HC8.out hb9)
  have HNA9 := Lib.hid (HNA8.out.below hb9)
  clear hb9
  have HC0 := Lib.hid (fun ob => bel_step HC9.out (bel_alloc w9 ob))
  go_wp2_with fail
  refine (HRT.out _ (HC0.out _)).mono ?_
  rintro _ w11 ⟨rfl, hb11⟩
  have HC11 := Lib.hid (bel_step (HC0.out _) hb11)
  have HNA11 := Lib.hid ((HNA9.out.below (bel_alloc w9 _)).below hb11)
  clear hb11 HC0
  go_wp2_with fail
  refine (HGC.out _ HC11.out).mono ?_
  rintro _ w12 ⟨rfl, hb12⟩
  have HC12 := Lib.hid (bel_step HC11.out hb12)
  have HNA12 := Lib.hid (HNA11.out.below hb12)
  clear hb12
  obtain ⟨w13, hw13⟩ : ∃ w13, w12.alloc (.cells #[.int .i64 0, .int .i64 5] 24) = w13 := ⟨_, rfl⟩
  have hb13 : Below w12.heap.size w12 w13 := by rw [← hw13]; exact bel_alloc _ _
  have HC13 := Lib.hid (bel_step HC12.out hb13)
  have HNA13 := Lib.hid (HNA12.out.below hb13)
  have HNC13 := Lib.hid (show Nb w13 w12.heap.size (0, 5) by rw [← hw13]; exact Nb.new w12 0 5)
  obtain ⟨gc, hgc⟩ : ∃ g, w12.heap.size = g := ⟨_, rfl⟩
  rw [hgc] at HNC13
  clear hb13
  obtain ⟨e0, e1⟩ := HNC13.out
  try dsimp only at e0 e1
  go_wp2_with fail
  refine (HRD.out _ HC13.out).mono ?_
  rintro _ w14 ⟨AR, cR, rfl, hrow, hb14⟩
  have HC14 := Lib.hid (bel_step HC13.out hb14)
  have HRW14 := Lib.hid hrow
  have HNA14 := Lib.hid (HNA13.out.below hb14)
  have HNC14 := Lib.hid (HNC13.out.below hb14)
  clear hb14 hrow e0 e1
  go_wp2_with fail
  refine (HRT.out _ HC14.out).mono ?_
  rintro _ w15 ⟨rfl, hb15⟩
  have HC15 := Lib.hid (bel_step HC14.out hb15)
  have HNA15 := Lib.hid (HNA14.out.below hb15)
  have HNC15 := Lib.hid (HNC14.out.below hb15)
  have HRW15 := Lib.hid (HRW14.out.below hb15)
  clear hb15
  go_wp2_with fail
  refine (HST.out _ HC15.out).mono ?_
  rintro _ w16 ⟨rfl, hb16⟩
  have HC16 := Lib.hid (bel_step HC15.out hb16)
  have HNA16 := Lib.hid (HNA15.out.below hb16)
  have HNC16 := Lib.hid (HNC15.out.below hb16)
  have HRW16 := Lib.hid (HRW15.out.below hb16)
  clear hb16
  obtain ⟨w17, hw17⟩ : ∃ w17, w16.alloc (.cells #[.int .i64 2, .int .i64 3, .int .i64 1] 47) = w17 := ⟨_, rfl⟩
  have hb17 : Below w16.heap.size w16 w17 := by rw [← hw17]; exact bel_alloc _ _
  have HC17 := Lib.hid (bel_step HC16.out hb17)
  have HNA17 := Lib.hid (HNA16.out.below hb17)
  have HNC17 := Lib.hid (HNC16.out.below hb17)
  have HRW17 := Lib.hid (HRW16.out.below hb17)
  have HNS17 := Lib.hid (show R3 w17 w16.heap.size 2 3 1 by rw [← hw17]; exact R3.new w16 2 3 1)
  obtain ⟨gs, hgs⟩ : ∃ g, w16.heap.size = g := ⟨_, rfl⟩
  rw [hgs] at HNS17
  clear hb17
  go_wp2_with fail
  refine (HRT.out _ HC17.out).mono ?_
  rintro _ w18 ⟨rfl, hb18⟩
  have HC18 := Lib.hid (bel_step HC17.out hb18)
  have HNA18 := Lib.hid (HNA17.out.below hb18)
  have HNC18 := Lib.hid (HNC17.out.below hb18)
  have HRW18 := Lib.hid (HRW17.out.below hb18)
  have HNS18 := Lib.hid (HNS17.out.below hb18)
  clear hb18
  go_wp2_with fail
  refine (HGL.out _ HC18.out).mono ?_
  rintro _ w19 ⟨rfl, hb19⟩
  have HC19 := Lib.hid (bel_step HC18.out hb19)
  have HNA19 := Lib.hid (HNA18.out.below hb19)
  have HNC19 := Lib.hid (HNC18.out.below hb19)
  have HRW19 := Lib.hid (HRW18.out.below hb19)
  have HNS19 := Lib.hid (HNS18.out.below hb19)
  clear hb19
  obtain ⟨w20, hw20⟩ : ∃ w20, w19.alloc (.cells #[.int .i64 0, .int .i64 6] 24) = w20 := ⟨_, rfl⟩
  have hb20 : Below w19.heap.size w19 w20 := by rw [← hw20]; exact bel_alloc _ _
  have HC20 := Lib.hid (bel_step HC19.out hb20)
  have HNA20 := Lib.hid (HNA19.out.below hb20)
  have HNC20 := Lib.hid (HNC19.out.below hb20)
  have HRW20 := Lib.hid (HRW19.out.below hb20)
  have HNS20 := Lib.hid (HNS19.out.below hb20)
  have HNL20 := Lib.hid (show Nb w20 w19.heap.size (0, 6) by rw [← hw20]; exact Nb.new w19 0 6)
  obtain ⟨gl, hgl⟩ : ∃ g, w19.heap.size = g := ⟨_, rfl⟩
  rw [hgl] at HNL20
  clear hb20
  obtain ⟨l0, l1⟩ := HNL20.out
  try dsimp only at l0 l1
  go_wp2_with fail
  refine (HTG.out _ HC20.out).mono ?_
  rintro _ w21 ⟨rfl, hb21⟩
  have HC21 := Lib.hid (bel_step HC20.out hb21)
  have HNA21 := Lib.hid (HNA20.out.below hb21)
  have HNC21 := Lib.hid (HNC20.out.below hb21)
  have HRW21 := Lib.hid (HRW20.out.below hb21)
  have HNS21 := Lib.hid (HNS20.out.below hb21)
  have HNL21 := Lib.hid (HNL20.out.below hb21)
  clear hb21
  clear l0 l1
  have HCV := Lib.hid (fun W => fun (hb : Below w21.heap.size w21 W) => bl.Row.conv (HRW21.out.below hb))
  obtain ⟨a0, a1⟩ := HNA21.out
  try dsimp only at a0 a1
  obtain ⟨e0, e1⟩ := HNC21.out
  try dsimp only at e0 e1
  obtain ⟨s0, s1, s2, -, -, -⟩ := HNS21.out
  try dsimp only at s0 s1 s2
  have hcv := HCV.out _ (Below.refl _ _)
  rw [aw_hi] at hcv
  have hgd := guard24
  have q1 : ∀ W, (binOp .eql 24 (.agg #[.int .i64 2, .int .i64 2]) (.agg #[.int .i64 2, .int .i64 2])).run Tryz.prog W = .ok (.bool true) W := fun W => run_eql24 (2, 2) (2, 2) W
  have q2 : ∀ W, (binOp .eql 24 (.agg #[.int .i64 0, .int .i64 5]) (.agg #[.int .i64 0, .int .i64 5])).run Tryz.prog W = .ok (.bool true) W := fun W => run_eql24 (0, 5) (0, 5) W
  go_wp2_with fail
  refine (HKD.out _ HC21.out).mono ?_
  rintro _ we ⟨rfl, hbe⟩
  have HFE := Lib.hid (bel_step HB3.out (bel_step HC21.out hbe))
  go_wp2_with fail
  go_ret
  exact ⟨rfl, HFE.out⟩
end Go.Proofs.YtgoddboicjfkcaaGreat.mg
namespace Go.Proofs.YtgoddboicjfkcaaGreat.mg
open Go.ChangeShapes Go.WideShapes Go.ChangeAt Go.RowKit
open bl (Pq)
set_option maxRecDepth 100000
theorem cells24 : Tryz.prog.cellsOf 24 = 2 := by kernel_rfl
theorem array2 {α : Type} {cs : Array α} (h : cs.size = 2) : ∃ c0 c1, cs = #[c0, c1] := by
 obtain ⟨l⟩ := cs
 match l, h with
 | [c0, c1], _ => exact ⟨c0, c1, rfl⟩
theorem open_node {H : Type} {enc : TypeId × Value → H} {W : World} {r : Reach} {b0 : Nat} {sp : Nat → Bool} {held : Bool} {v : Value} {d : DataW H} {p : List MemPlace}
  (hv : Value.okWide Tryz.prog W r b0 24 v) (h : DataW.Trod enc Tryz.prog W 0 sp held 24 v d p) : ∃ n : Nd, v = Nv n := by
 obtain ⟨cs, rfl, hsz⟩ := okWide_struct Tryz.underlying24 hv
 obtain ⟨c0, c1, rfl⟩ := array2 (hsz.trans cells24)
 obtain ⟨fuel, hf⟩ := h
 obtain ⟨xs, n, _, hx, hl, hlen, hfs⟩ := DataW.trod_struct Tryz.underlying24 hf
 have hlen2 : xs.length = 2 := hlen
 match xs, hlen2 with
 | [y0, y1], _ =>
  have t0 := hfs 0 _ rfl
  have t1 := hfs 1 _ rfl
  obtain ⟨z0, e0, _⟩ := DataW.trod_int Tryz.underlying3 t0
  obtain ⟨z1, e1, _⟩ := DataW.trod_int Tryz.underlying3 t1
  have f0 : c0 = .int .i64 z0 := by injection e0 with e _
  have f1 : c1 = .int .i64 z1 := by injection e1 with e _
  subst f0 f1
  exact ⟨(z0, z1), rfl⟩
theorem node_stays {H : Type} {enc : TypeId × Value → H} {W W' : World} {v : Value} {d : DataW H} {ps before : List MemPlace} {sp : Nat → Bool}
  (h : DataW.Trod enc Tryz.prog W 0 (fun _ => true) true 24 v d ps) (hb : Below W.heap.size W W') (hsub : ∀ x ∈ ps, x ∈ before) (hlt : ∀ x ∈ before, x.block < W.heap.size) (hsp : ∀ x ∈ before, sp x.block = true) (hlaid : laidOutB Tryz.prog = true) :
  DataW.Trod enc Tryz.prog W' 0 sp true 24 v d ps :=
 WideElems.Trod_stays hlaid (by kernel_rfl) (of_decide_eq_true (by kernel_rfl)) h (fun x hx => hb.same (hlt x (hsub x hx))) (fun x hx => hsp x (hsub x hx))
theorem acts_up {w : World} {B B' n : Nat} {A : Option Addr} {F : Nat → cb.Act7} (h : cb.Acts w B A n F) (hB : B ≤ B') : cb.Acts w B' A n F := fun i hi => by
 obtain ⟨b, off, e, h1, r⟩ := h i hi
 exact ⟨b, off, e, Nat.lt_of_lt_of_le h1 hB, r⟩
def NS (w : World) (A : Option Addr) (l : List ByteArray) : Prop := ∀ k x, l[k]? = some x → ∃ G, A = some ⟨G, 0, none⟩ ∧ w.cell? ⟨G, k, none⟩ = some (.string x)
theorem NR.ns {w : World} {lo : Nat} {A : Option Addr} {l : List ByteArray} (h : NR w lo A l) : NS w A l := fun k x hx => by
 obtain ⟨G, e, _, _, h3, _⟩ := h k x hx
 exact ⟨G, e, h3⟩
theorem NS.below {w w' : World} {A : Option Addr} {l : List ByteArray} (h : NS w A l) (hb : Below w.heap.size w w') : NS w' A l := fun k x hx => by
 obtain ⟨G, e, h3⟩ := h k x hx
 exact ⟨G, e, (hb.cell (p := ⟨G, k, none⟩) (World.block_lt_of_cell? _ _ h3)).trans h3⟩
theorem same_any {w : World} {A B : Option Addr} {l k : List ByteArray} {c d : Nat} (hA : NS w A l) (hB : NS w B k) (h1 : l.length ≤ c) (h2 : c ≤ maxLen) (h3 : k.length ≤ d) (h4 : d ≤ maxLen) :
  Calls Tryz.prog 25 #[.slice A l.length c, .slice B k.length d] w (fun e w' => e = .returned (.bool (decide (l = k))) ∧ Below w.heap.size w w') := by
 have HA := Lib.hid (fun W (hb : Below w.heap.size w W) => hA.below hb)
 have HB := Lib.hid (fun W (hb : Below w.heap.size w W) => hB.below hb)
 obtain ⟨r, hr⟩ : ∃ r, decide (l = k) = r := ⟨_, rfl⟩
 rw [hr]
 have HR := Lib.hid hr
 have hlc : (l.length : Int) ≤ 9223372036854775807 := by unfold maxLen at h2; omega
 have hkc : (k.length : Int) ≤ 9223372036854775807 := by unfold maxLen at h4; omega
 by_cases hl : l.length = k.length
 case neg =>
  have hq : (((l.length : Nat) : Int) != ((k.length : Nat) : Int)) = true := by simp; omega
  have HN := Lib.hid (show l ≠ k from fun e => hl (by rw [e]))
  generalize l.length = a at *
  generalize k.length = b at *
  clear hA hB hr hl
  go_enter Tryz.func25, Tryz.ntmps25
  go_wp2_with fail
  go_ret
  exact ⟨by rw [← HR.out, decide_eq_false HN.out]; rfl, Below.refl _ _⟩
 have HK := Lib.hid (show (∀ i, i < l.length → l[i]? = k[i]?) → l = k from fun h => List.ext_getElem? fun i => by
  by_cases hi : i < l.length
  ·exact h i hi
  ·rw [List.getElem?_eq_none (by omega), List.getElem?_eq_none (by omega)])
 have HGL := Lib.hid (fun i (hi : i < l.length) => (⟨l[i], List.getElem?_eq_getElem hi⟩ : ∃ x, l[i]? = some x))
 have HGK := Lib.hid (fun i (hi : i < l.length) => (⟨k[i]'(by omega), List.getElem?_eq_getElem (by omega)⟩ : ∃ x, k[i]? = some x))
 rw [← hl] at h3 hkc ⊢
 generalize l.length = n at *
 clear hA hB hr hl
 go_enter Tryz.func25, Tryz.ntmps25
 go_wp2_with fail
 go_loopg [13] n (fun g s13 wr => ∃ j : Nat, g + j = n ∧ s13 = .int .i64 j ∧ Hid (∀ i, i < j → l[i]? = k[i]?) ∧ Hid (Below w.heap.size w wr))
 case atStart => exact ⟨0, by omega, rfl, Lib.hid (fun i hi => absurd hi (Nat.not_lt_zero _)), Lib.hid (Below.refl _ _)⟩
 case round =>
  obtain ⟨j, hgj, rfl, HE, HW⟩ := hrel
  by_cases hj : j < n
  ·obtain ⟨x, hx⟩ := HGL.out j hj
   obtain ⟨y, hy⟩ := HGK.out j hj
   obtain ⟨G, rfl, f1⟩ := HA.out _ HW.out j x hx
   obtain ⟨K, rfl, f2⟩ := HB.out _ HW.out j y hy
   have HX := Lib.hid (And.intro hx hy)
   clear hx hy
   by_cases hxy : x = y
   ·have hq : (x.toList == y.toList) = true := by rw [dn.beq_names, decide_eq_true hxy]
    have HE2 := Lib.hid (show ∀ i, i < j + 1 → l[i]? = k[i]? from fun i hi => by
     by_cases h : i < j
     ·exact HE.out i h
     ·obtain rfl : i = j := by omega
      rw [HX.out.1, HX.out.2, hxy])
    clear hxy
    go_wp2_with fail
    go_quiet (fail)
    go_wp2_with fail
    go_roundg (gk - 1)
    case measure => omega
    case rel => exact ⟨j + 1, by omega, by go_num, HE2, Lib.hid (dn.below_drewN HW.out _)⟩
   ·have hq : (x.toList == y.toList) = false := by rw [dn.beq_names, decide_eq_false hxy]
    have HN := Lib.hid (show l ≠ k from fun e => hxy (by have := HX.out; rw [e] at this; have h5 := this.1.symm.trans this.2; injection h5))
    clear hxy
    go_wp2_with fail
    go_quiet (fail)
    go_wp2_with fail
    go_ret
    exact ⟨by rw [← HR.out, decide_eq_false HN.out]; rfl, dn.below_drewN HW.out _⟩
  ·have HE2 := Lib.hid (HK.out fun i hi => HE.out i (by omega))
   clear HE
   go_wp2_with fail
   go_ret
   exact ⟨by rw [← HR.out, decide_eq_true HE2.out]; rfl, HW.out⟩
end Go.Proofs.YtgoddboicjfkcaaGreat.mg
