/- Part 38 of what is known of the program's functions and of the document's words: contracts, and the mathematics beneath them. -/
import Derived.Test.YtpmpbmjjlccbbaaGreatProg
import Derived.Test.YtpmpbmjjlccbbaaGreatZ25
import Derived.Test.YtpmpbmjjlccbbaaGreatZ27
import Derived.Test.YtpmpbmjjlccbbaaGreatZ31
import Derived.Test.YtpmpbmjjlccbbaaGreatZ33
import Derived.Test.YtpmpbmjjlccbbaaGreatZ37
import Derived.StillTailTactics
import Derived.ProofKit
import Derived.ChangeSlices
import Derived.SliceStrings
import Derived.Deep.Slices
import Derived.Deep.Fields
import Derived.Lib.SmallJoins
import Derived.OpenShut
import Derived.ChangeSame
set_option linter.unusedVariables false
set_option linter.unusedSimpArgs false
set_option maxRecDepth 100000
set_option maxHeartbeats 8000000
namespace Go.Proofs.YtpmpbmjjlccbbaaGreat.tr
open Go.RowKit
open br (BS Inv Ino)
open cb (BrX)
open bl (Pq)
open ds (De Tb TbX Kp DA DV DL GetE StE IntsE lowV openT getV errV setT closeT full allT)
open pa (Bs Sv Strs Own own_form info9 own_base)
abbrev Keeps (X : Nat → Prop) (w w' : World) : Prop := ∀ b, X b → w'.heap[b]? = w.heap[b]?
theorem toBl {F : Nat → Prop} {w w' : World} (h : ds.Only F w w') : bl.Only F w w' := ⟨h.os, h.tape, h.output, h.size, h.block⟩
theorem toDs {F : Nat → Prop} {w w' : World} (h : bl.Only F w w') : ds.Only F w w' := ⟨h.os, h.tape, h.output, h.size, h.block⟩
section
variable {w0 w w' : World} {P room T : Nat} {X F : Nat → Prop} {S : BS}
theorem br_only {Y : Nat → Prop} (h : BrX w0 w P X S room T) (ho : bl.Only F w w') (hF : ∀ b, F b → X b) (hl : ∀ b, F b → w0.heap.size ≤ b) (hY : ∀ b, Y b → X b ∨ (w.heap.size ≤ b ∧ b < w'.heap.size)) : BrX w0 w' P Y S room T := by
 obtain ⟨st, qb, qo, pl, tag, Tq, h1, h2, h3, h4, h5, h6, h7⟩ := h
 refine ⟨st, qb, qo, pl, tag, Tq, h1.only ho (fun b hb => (h7 b (hF b hb)).2), h2, h3, h4, h5, h6.trans ⟨ho.os, ho.tape, ho.output, ho.size, fun k hk => ho.block k (Nat.lt_of_lt_of_le hk h6.size) (fun hf => by have := hl k hf; omega)⟩, fun b hb => ?_⟩
 rcases hY b hb with hb | ⟨h8, h9⟩
 ·exact ⟨Nat.lt_of_lt_of_le (h7 b hb).1 ho.size, (h7 b hb).2⟩
 ·exact ⟨h9, h1.hi b h8⟩
theorem br_up {T' : Nat} (h : BrX w0 w P X S room T) (hT : T ≤ T') : BrX w0 w P X S room T' := by
 obtain ⟨st, qb, qo, pl, tag, Tq, h1, h2, h3, h4, h5, h6, h7⟩ := h
 exact ⟨st, qb, qo, pl, tag, Tq, h1, by omega, h3, h4, h5.mono (by omega), h6, h7⟩
theorem br_xlt (h : BrX w0 w P X S room T) {b : Nat} (hb : X b) : b < w.heap.size := by
 obtain ⟨_, _, _, _, _, _, _, _, _, _, _, _, h7⟩ := h
 exact (h7 b hb).1
end
structure SyT (w0 w : World) (P B Q : Nat) (tg : Nat → Nat) (X : Nat → Prop) (y : Sy) (room T : Nat) : Prop where
 c0 : w.cell? ⟨P, 0, none⟩ = some (Pq B)
 c1 : w.cell? ⟨P, 1, none⟩ = some (Pq Q)
 lo : w0.heap.size ≤ P
 tb : TbX w0 w Q tg y.T
 tp : tg P = 0
 br : BrX w0 w B (fun b => tg b ≠ 0 ∨ b = P ∨ X b) y.S room T
 tx : ∀ b, X b → b ≠ P ∧ tg b = 0
def SyX (w0 w : World) (P B Q : Nat) (X : Nat → Prop) (y : Sy) (room T : Nat) : Prop := ∃ tg, SyT w0 w P B Q tg X y room T
def Ov (X : Nat → Prop) (w w' : World) (b : Nat) : Prop := X b ∨ (w.heap.size ≤ b ∧ b < w'.heap.size)
section
variable {w0 w w' : World} {P B Q room T : Nat} {X Y : Nat → Prop} {y y' : Sy}
theorem SyX.bel (h : SyX w0 w P B Q X y room T) : Below w0.heap.size w0 w := by obtain ⟨_, h⟩ := h; exact h.br.bel
theorem SyX.good (h : SyX w0 w P B Q X y room T) : br.Good y.S room := by obtain ⟨_, h⟩ := h; exact h.br.good
theorem SyX.c0 (h : SyX w0 w P B Q X y room T) : w.cell? ⟨P, 0, none⟩ = some (Pq B) := by obtain ⟨_, h⟩ := h; exact h.c0
theorem SyX.c1 (h : SyX w0 w P B Q X y room T) : w.cell? ⟨P, 1, none⟩ = some (Pq Q) := by obtain ⟨_, h⟩ := h; exact h.c1
theorem SyX.lt (h : SyX w0 w P B Q X y room T) {b : Nat} (hb : X b) : b < w.heap.size := by obtain ⟨_, h⟩ := h; exact br_xlt h.br (.inr (.inr hb))
theorem SyX.weaken (h : SyX w0 w P B Q X y room T) (hY : ∀ b, Y b → X b) : SyX w0 w P B Q Y y room T := by
 obtain ⟨tg, h⟩ := h
 exact ⟨tg, h.c0, h.c1, h.lo, h.tb, h.tp, h.br.sub fun b hb => hb.imp id fun e => e.imp id (hY b), fun b hb => h.tx b (hY b hb)⟩
theorem SyX.up {T' : Nat} (h : SyX w0 w P B Q X y room T) (hT : T ≤ T') : SyX w0 w P B Q X y room T' := by
 obtain ⟨tg, h⟩ := h
 exact ⟨tg, h.c0, h.c1, h.lo, h.tb, h.tp, br_up h.br hT, h.tx⟩
theorem SyX.turn {F : Nat → Prop} (h : SyX w0 w P B Q X y room T) (ho : bl.Only F w w') (hF : ∀ b, F b → X b ∧ w0.heap.size ≤ b) : SyX w0 w' P B Q (Ov X w w') y room T := by
 obtain ⟨tg, h⟩ := h
 have hP : w'.heap[P]? = w.heap[P]? := ho.block P (br_xlt h.br (.inr (.inl rfl))) fun e => (h.tx P (hF P e).1).1 rfl
 refine ⟨tg, (World.cell?_of_block (a := ⟨P, 0, none⟩) hP).trans h.c0, (World.cell?_of_block (a := ⟨P, 1, none⟩) hP).trans h.c1, h.lo, h.tb.apart (toDs ho) fun b hb => ⟨(hF b hb).2, (h.tx b (hF b hb).1).2⟩, h.tp, br_only h.br ho (fun b hb => .inr (.inr (hF b hb).1)) (fun b hb => (hF b hb).2) fun b hb => ?_, fun b hb => ?_⟩
 ·rcases hb with hb | hb | hb | hb
  ·exact .inl (.inl hb)
  ·exact .inl (.inr (.inl hb))
  ·exact .inl (.inr (.inr hb))
  ·exact .inr hb
 ·rcases hb with hb | hb
  ·exact h.tx b hb
  ·refine ⟨fun e => ?_, Classical.byContradiction fun e => ?_⟩
   ·subst e
    have := br_xlt h.br (.inr (.inl rfl))
    omega
   ·have := (h.tb.own b e).2; omega
theorem SyX.over (h : SyX w0 w P B Q X y room T) (hb : Below w.heap.size w w') : SyX w0 w' P B Q (Ov X w w') y room T :=
 h.turn (F := fun _ => False) ⟨hb.os, hb.tape, hb.output, hb.size, fun k hk _ => hb.block k hk⟩ fun _ e => e.elim
theorem SyX.below (h : SyX w0 w P B Q X y room T) (hb : Below w.heap.size w w') : SyX w0 w' P B Q X y room T := (h.over hb).weaken fun _ h => .inl h
theorem SyX.keeps (h : SyX w0 w P B Q X y room T) (hb : Below w.heap.size w w') : Keeps X w w' := fun b hx => hb.block b (h.lt hx)
theorem tb_same {tg : Nat → Nat} {T : Tb} (h : TbX w0 w Q tg T) (hb : Below w0.heap.size w0 w') (hs : ∀ b, tg b ≠ 0 → b < w'.heap.size) (hk : ∀ b, tg b ≠ 0 → w'.heap[b]? = w.heap[b]?) : TbX w0 w' Q tg T :=
 ⟨fun b h1 => ⟨(h.own b h1).1, hs b h1⟩, h.tp, hb, fun k => (World.frozen?_of_block (a := ⟨Q, k, none⟩) (hk Q (by rw [h.tp]; decide))).trans (h.fz k), fun k hk32 => (h.slot k hk32).keep (by rw [h.tp]; decide) hk⟩
theorem SyT.stepB {tg : Nat → Nat} {S' : BS} {T' : Nat} (h : SyT w0 w P B Q tg X y room T) (k1 : BrX w0 w' B (fun b => tg b ≠ 0 ∨ b = P ∨ X b) S' room T') (k2 : cb.Same (fun b => tg b ≠ 0 ∨ b = P ∨ X b) w w') :
  SyX w0 w' P B Q X ⟨S', y.T⟩ room T' ∧ Keeps X w w' :=
 ⟨⟨tg, (World.cell?_of_block (a := ⟨P, 0, none⟩) (k2 P (.inr (.inl rfl)))).trans h.c0, (World.cell?_of_block (a := ⟨P, 1, none⟩) (k2 P (.inr (.inl rfl)))).trans h.c1, h.lo, tb_same h.tb k1.bel (fun b hb => br_xlt k1 (.inl hb)) fun b hb => k2 b (.inl hb), h.tp, k1, h.tx⟩, fun b hb => k2 b (.inr (.inr hb))⟩
theorem SyX.step {f : Nat} {args : Array Value} {v : Value} {S' : BS} {T' : Nat} (h : SyX w0 w P B Q X y room T)
  (hc : ∀ Y, BrX w0 w B Y y.S room T → Calls Tryz.prog f args w (fun e w' => e = .returned v ∧ BrX w0 w' B Y S' room T' ∧ cb.Same Y w w')) :
  Calls Tryz.prog f args w (fun e w' => e = .returned v ∧ SyX w0 w' P B Q X ⟨S', y.T⟩ room T' ∧ Keeps X w w') := by
 obtain ⟨tg, h⟩ := h
 exact (hc _ h.br).mono fun e w' ⟨he, k1, k2⟩ => ⟨he, h.stepB k1 k2⟩
theorem SyX.asks {p : Prop} (h : SyX w0 w P B Q X y room T) (hc : ∀ Y, BrX w0 w B Y y.S room T → p) : p := by obtain ⟨tg, h⟩ := h; exact hc _ h.br
theorem SyX.ctr (h : SyX w0 w P B Q X y room T) : cb.Ctr w B y.S := h.asks fun _ h => h.ctr
theorem SyT.stepT {tg tg' : Nat → Nat} {K : Tb} (h : SyT w0 w P B Q tg X y room T) (k1 : TbX w0 w' Q tg' K) (k2 : Kp tg tg' w w') :
  SyX w0 w' P B Q X ⟨y.S, K⟩ room T ∧ Keeps X w w' := by
 have hz : ∀ b, b < w.heap.size → tg b = 0 → tg' b = 0 := fun b hb e => Classical.byContradiction fun e2 => k2.tag b hb e2 e
 have hPl := br_xlt h.br (.inr (.inl rfl))
 have hP : w'.heap[P]? = w.heap[P]? := k2.only.block P hPl (by rw [h.tp]; simp)
 refine ⟨⟨tg', (World.cell?_of_block (a := ⟨P, 0, none⟩) hP).trans h.c0, (World.cell?_of_block (a := ⟨P, 1, none⟩) hP).trans h.c1, h.lo, k1, hz P hPl h.tp,
  br_only h.br (toBl k2.only) (fun b hb => .inl hb) (fun b hb => (h.tb.own b hb).1) fun b hb => ?_, fun b hb => ⟨(h.tx b hb).1, hz b (br_xlt h.br (.inr (.inr hb))) (h.tx b hb).2⟩⟩,
  fun b hb => k2.only.block b (br_xlt h.br (.inr (.inr hb))) (by rw [(h.tx b hb).2]; simp)⟩
 rcases hb with hb | hb
 ·rcases Nat.lt_or_ge b w.heap.size with hl | hl
  ·exact .inl (.inl (k2.tag b hl hb))
  ·exact .inr ⟨hl, (k1.own b hb).2⟩
 ·exact .inl (.inr hb)
theorem SyX.tbl {p : Prop} (h : SyX w0 w P B Q X y room T) (hc : ∀ tg, TbX w0 w Q tg y.T → p) : p := by obtain ⟨tg, h⟩ := h; exact hc _ h.tb
end
structure St (w0 w W : World) (P B Q : Nat) (X : Nat → Prop) (n : Nat) (y : Sy) (room T : Nat) : Prop where
 sy : SyX w0 W P B Q (fun b => X b ∨ (w.heap.size ≤ b ∧ b < n)) y room T
 kp : Keeps X w W
 xl : ∀ b, X b → b < w.heap.size
 lo : w0.heap.size ≤ w.heap.size
 wn : w.heap.size ≤ n
section
variable {w0 w W W' : World} {P B Q n room T : Nat} {X Z : Nat → Prop} {y y' : Sy}
theorem St.start (h : SyX w0 w P B Q X y room T) (hb : Below w.heap.size w W) : St w0 w W P B Q X W.heap.size y room T :=
 ⟨h.over hb, h.keeps hb, fun b hb => h.lt hb, h.bel.size, hb.size⟩
theorem St.below (h : St w0 w W P B Q X n y room T) (hb : Below W.heap.size W W') : St w0 w W' P B Q X n y room T :=
 ⟨h.sy.below hb, fun b hx => (hb.block b (h.sy.lt (.inl hx))).trans (h.kp b hx), h.xl, h.lo, h.wn⟩
theorem St.grow (h : St w0 w W P B Q X n y room T) (hb : Below W.heap.size W W') (hn : n = W.heap.size) : St w0 w W' P B Q X W'.heap.size y room T := by
 subst hn
 refine ⟨(h.sy.over hb).weaken fun b hb2 => ?_, (h.below hb).kp, h.xl, h.lo, Nat.le_trans h.wn hb.size⟩
 rcases hb2 with h1 | ⟨h1, h2⟩
 ·exact .inl (.inl h1)
 ·rcases Nat.lt_or_ge b W.heap.size with h3 | h3
  ·exact .inl (.inr ⟨h1, h3⟩)
  ·exact .inr ⟨h3, h2⟩
theorem St.move {T' : Nat} (h : St w0 w W P B Q X n y room T) (hs : SyX w0 W' P B Q (fun b => X b ∨ (w.heap.size ≤ b ∧ b < n)) y' room T') (hk : Keeps (fun b => X b ∨ (w.heap.size ≤ b ∧ b < n)) W W') : St w0 w W' P B Q X n y' room T' :=
 ⟨hs, fun b hx => (hk b (.inl hx)).trans (h.kp b hx), h.xl, h.lo, h.wn⟩
theorem St.set (h : St w0 w W P B Q X n y room T) {b i : Nat} (h1 : w.heap.size ≤ b) (h2 : b < n) (x : Value) : St w0 w (W.setCell ⟨b, i, none⟩ x) P B Q X n y room T := by
 have ho : bl.Only (fun k => k = b) W (W.setCell ⟨b, i, none⟩ x) := toBl (ds.only_cell W ⟨b, i, none⟩ x)
 refine ⟨(h.sy.turn ho fun k hk => ?_).weaken fun k hk => .inl hk, fun k hx => ?_, h.xl, h.lo, h.wn⟩
 ·subst hk; exact ⟨.inr ⟨h1, h2⟩, Nat.le_trans h.lo h1⟩
 ·exact (ho.block k (h.sy.lt (.inl hx)) (fun e => by have := h.xl k hx; omega)).trans (h.kp k hx)
theorem St.up {T' : Nat} (h : St w0 w W P B Q X n y room T) (hT : T ≤ T') : St w0 w W P B Q X n y room T' := ⟨h.sy.up hT, h.kp, h.xl, h.lo, h.wn⟩
theorem St.done (h : St w0 w W P B Q X n y room T) : SyX w0 W P B Q X y room T ∧ Keeps X w W := ⟨h.sy.weaken fun _ hx => .inl hx, h.kp⟩
theorem St.c0 (h : St w0 w W P B Q X n y room T) : W.cell? ⟨P, 0, none⟩ = some (Pq B) := h.sy.c0
theorem St.c1 (h : St w0 w W P B Q X n y room T) : W.cell? ⟨P, 1, none⟩ = some (Pq Q) := h.sy.c1
theorem Rw.keep {b : Nat} {vs : List Value} (h : Rw W b vs) (hk : Keeps (fun b => X b ∨ (w.heap.size ≤ b ∧ b < n)) W W') (h1 : w.heap.size ≤ b) (h2 : b < n) (hs : SyX w0 W' P B Q (fun b => X b ∨ (w.heap.size ≤ b ∧ b < n)) y room T) : Rw W' b vs :=
 h.same (hk b (.inr ⟨h1, h2⟩)) (hs.lt (.inr ⟨h1, h2⟩))
end
def StepE (w0 w : World) (P B Q : Nat) (Z : Nat → Prop) (v : Value) (y' : Sy) (room T' : Nat) (e : Ending) (w' : World) : Prop := e = .returned v ∧ SyX w0 w' P B Q Z y' room T' ∧ Keeps Z w w'
section
variable {w0 w : World} {P B Q room T : Nat} {Z : Nat → Prop} {y : Sy} {n c : Nat} {A : Option Addr} {d : De}
theorem p_open (h : SyX w0 w P B Q Z y room T) (hd : DA w A n c d) (hm : n ≤ 4000) : Calls Tryz.prog 164 #[Pq Q, DV A n c d] w (StepE w0 w P B Q Z (.tuple #[.int .i64 (lowV y.T).1, .int .i64 (lowV y.T).2]) ⟨y.S, openT y.T d⟩ room T) := by
 obtain ⟨tg, h⟩ := h
 exact (ds.open_any h.tb hd.len hm (Nat.le_refl _) hd.st).mono fun _ _ ⟨tg', he, h1, h2⟩ => ⟨he, h.stepT h1 h2⟩
theorem p_set (h : SyX w0 w P B Q Z y room T) (hd : DA w A n c d) (hm : n ≤ 4000) (fd : Int) : Calls Tryz.prog 122 #[Pq Q, .int .i64 fd, DV A n c d] w (StepE w0 w P B Q Z (.int .i64 (errV y.T fd)) ⟨y.S, setT y.T fd d⟩ room T) := by
 obtain ⟨tg, h⟩ := h
 exact (ds.set_any h.tb fd hd.len hm (Nat.le_refl _) hd.st).mono fun _ _ ⟨tg', he, h1, h2⟩ => ⟨he, h.stepT h1 h2⟩
theorem p_close (h : SyX w0 w P B Q Z y room T) (fd : Int) : Calls Tryz.prog 118 #[Pq Q, .int .i64 fd] w (fun e w' => ∃ A c, StepE w0 w P B Q Z (.tuple #[DV A (getV y.T fd).1.ns.length c (getV y.T fd).1, .int .i64 (getV y.T fd).2]) ⟨y.S, closeT y.T fd⟩ room T e w') := by
 obtain ⟨tg, h⟩ := h
 exact (ds.close_any h.tb fd).mono fun _ _ ⟨A, c, he, _, h1, h2⟩ => ⟨A, c, he, h.stepT h1 h2⟩
theorem p_get (h : SyX w0 w P B Q Z y room T) (fd : Int) : Calls Tryz.prog 165 #[Pq Q, .int .i64 fd] w (GetE w (getV y.T fd)) := h.tbl fun _ h => ds.get_any h fd
theorem p_full (h : SyX w0 w P B Q Z y room T) : Calls Tryz.prog 114 #[Pq Q] w (StE w (.bool (full y.T))) := h.tbl fun _ h => ds.full_any h
theorem p_all (h : SyX w0 w P B Q Z y room T) : Calls Tryz.prog 55 #[Pq Q] w (IntsE w (allT y.T 32)) := h.tbl fun _ h => ds.all_any h
theorem p_make (h : SyX w0 w P B Q Z y room T) (hT : T ≤ 1000) (d : Int) (s : ByteArray) (k : Int) (t : ByteArray) (hm : s.size ≤ 9223372036854775807) (hmt : t.size ≤ 9223372036854775807) :
  Calls Tryz.prog 128 #[Pq B, .int .i64 d, .string s, .int .i64 k, .string t] w (StepE w0 w P B Q Z (.tuple #[.int .i64 (y.S.make d s k t).1.1, .int .i64 (y.S.make d s k t).1.2]) ⟨(y.S.make d s k t).2, y.T⟩ room (T + 1)) :=
 h.step fun _ hx => cb.x_make hx hT d s k t hm hmt
theorem p_link (h : SyX w0 w P B Q Z y room T) (d : Int) (s : ByteArray) (i : Int) (hm : s.size ≤ 9223372036854775807) :
 Calls Tryz.prog 134 #[Pq B, .int .i64 d, .string s, .int .i64 i] w (StepE w0 w P B Q Z (.int .i64 (y.S.link d s i).1) ⟨(y.S.link d s i).2, y.T⟩ room (T + 1)) := h.step fun _ hx => cb.x_link hx d s i hm
theorem p_unlink (h : SyX w0 w P B Q Z y room T) (hT : T ≤ 1000) (d : Int) (s : ByteArray) :
 Calls Tryz.prog 131 #[Pq B, .int .i64 d, .string s] w (StepE w0 w P B Q Z (.int .i64 (y.S.unlink d s).1) ⟨(y.S.unlink d s).2, y.T⟩ room (T + 1)) := h.step fun _ hx => cb.x_unlink hx hT d s
theorem p_rmdir (h : SyX w0 w P B Q Z y room T) (hT : T ≤ 1000) (d : Int) (s : ByteArray) :
 Calls Tryz.prog 129 #[Pq B, .int .i64 d, .string s] w (StepE w0 w P B Q Z (.int .i64 (y.S.rmdir d s).1) ⟨(y.S.rmdir d s).2, y.T⟩ room (T + 1)) := h.step fun _ hx => cb.x_rmdir hx hT d s
theorem p_rename (h : SyX w0 w P B Q Z y room T) (hT : T ≤ 1000) (d : Int) (s : ByteArray) (t : Int) (u : ByteArray) (hm : u.size ≤ 9223372036854775807) :
 Calls Tryz.prog 137 #[Pq B, .int .i64 d, .string s, .int .i64 t, .string u] w (StepE w0 w P B Q Z (.int .i64 (y.S.rename d s t u).1) ⟨(y.S.rename d s t u).2, y.T⟩ room (T + 1)) := h.step fun _ hx => cb.x_rename hx hT d s t u hm
theorem p_cut (h : SyX w0 w P B Q Z y room T) (i off : Int) :
 Calls Tryz.prog 116 #[Pq B, .int .i64 i, .int .i64 off] w (StepE w0 w P B Q Z (.int .i64 (y.S.cutI i off).1) ⟨(y.S.cutI i off).2, y.T⟩ room (T + 1)) := h.step fun _ hx => cb.x_cut hx i off
theorem p_hold (h : SyX w0 w P B Q Z y room T) (hT : T ≤ 1000) (i : Int) :
 Calls Tryz.prog 163 #[Pq B, .int .i64 i] w (StepE w0 w P B Q Z (.int .i64 (y.S.hold i).1) ⟨(y.S.hold i).2, y.T⟩ room (T + 1)) := h.step fun _ hx => cb.x_hold hx hT i
theorem p_release (h : SyX w0 w P B Q Z y room T) (hT : T ≤ 1000) (i : Int) :
 Calls Tryz.prog 119 #[Pq B, .int .i64 i] w (StepE w0 w P B Q Z (.int .i64 (y.S.release i).1) ⟨(y.S.release i).2, y.T⟩ room (T + 1)) := h.step fun _ hx => cb.x_release hx hT i
theorem p_read (h : SyX w0 w P B Q Z y room T) (i off n : Int) : Calls Tryz.prog 48 #[Pq B, .int .i64 i, .int .i64 off, .int .i64 n] w (cb.ReadI w y.S i off n) := h.asks fun _ hx => cb.x_read hx i off n
theorem p_get2 (h : SyX w0 w P B Q Z y room T) (d : Int) (s : ByteArray) : Calls Tryz.prog 136 #[Pq B, .int .i64 d, .string s] w (cb.RetW w (.tuple #[.int .i64 (y.S.get d s).1, .int .i64 (y.S.get d s).2])) := h.asks fun _ hx => cb.x_get hx d s
theorem p_kind (h : SyX w0 w P B Q Z y room T) (i : Int) : Calls Tryz.prog 132 #[Pq B, .int .i64 i] w (cb.RetI w (y.S.kindOf i)) := h.asks fun _ hx => cb.x_kind hx i
theorem p_stat (h : SyX w0 w P B Q Z y room T) (i : Int) : Calls Tryz.prog 47 #[Pq B, .int .i64 i] w (cb.RetW w (cb.statV y.S i)) := h.asks fun _ hx => cb.x_stat hx i
theorem p_target (h : SyX w0 w P B Q Z y room T) (i : Int) : Calls Tryz.prog 50 #[Pq B, .int .i64 i] w (fun e w' => e = .returned (.tuple #[.string (y.S.targetOf i).1, .int .i64 (y.S.targetOf i).2]) ∧ w' = w) := h.asks fun _ hx => cb.x_target hx i
theorem p_entries (h : SyX w0 w P B Q Z y room T) (i : Int) : Calls Tryz.prog 51 #[Pq B, .int .i64 i] w (fun e w' => ∃ o c, e = .returned (.tuple #[.slice (dn.Ao o) (y.S.all i).1.length c, .int .i64 (y.S.all i).2]) ∧ (y.S.all i).1.length ≤ c ∧ c ≤ maxLen ∧ dn.Sl w' w.heap.size o c (y.S.all i).1 ∧ Below w.heap.size w w') := h.asks fun _ hx => cb.x_all hx i
theorem p_write (h : SyX w0 w P B Q Z y room T) (i off : Int) (A : Option Addr) (len dc : Nat) (f : Nat → UInt8) (hA : ∀ j, j < len → ∃ b o, A = some ⟨b, o, none⟩ ∧ Z b ∧ w.cell? ⟨b, o + j, none⟩ = some (bl.U8 (f j))) (hlc : len ≤ dc) (hdc : dc ≤ maxLen) :
  Calls Tryz.prog 169 #[Pq B, .int .i64 i, .int .i64 off, .slice A len dc] w (fun e w' => ∃ p err S', cb.WrI y.S room i off len f p err S' ∧ StepE w0 w P B Q Z (.tuple #[.int .i64 (p : Int), .int .i64 err]) ⟨S', y.T⟩ room (T + 1) e w') := by
 obtain ⟨tg, h⟩ := h
 exact (cb.x_write h.br i off A len dc f (fun j hj => by obtain ⟨b, o, e, hz, hc⟩ := hA j hj; exact ⟨b, o, e, .inr (.inr hz), hc⟩) hlc hdc).mono fun _ _ ⟨p, err, S', hw, he, k1, k2⟩ => ⟨p, err, S', hw, he, h.stepB k1 k2⟩
theorem p_walk (h : SyX w0 w P B Q Z y room T) {ns : List Bs} (d fol : Bool) (hn : n = ns.length) (hl : n ≤ 400) (hc : n ≤ c) (hs : Strs w w.heap.size A ns) :
 Calls Tryz.prog 161 #[.iface 26 (Pq B), .agg #[.slice A n c, .bool d], .bool fol] w (cb.TopE w (wk.walkT (cb.trS y.S) fol 40 1 (cb.nsB ns) d)) := cb.top_any h.ctr hn hl hc hs
end
end Go.Proofs.YtpmpbmjjlccbbaaGreat.tr
namespace Go.Proofs.YtpmpbmjjlccbbaaGreat.tr
open Go.RowKit
open br (BS Inv Ino)
open cb (BrX RetW RetI)
open bl (Pq)
open wk (walkT pe pn pd e0 r0 dot1 dot2)
open ds (De Tb DA DV DL TY TbX GetE StE IntsE lowV openT getV errV setT closeT full allT dz em)
open pa (Bs Sv Strs Own own_form info9 own_base)
theorem balloc (w : World) (o : Obj) : Below w.heap.size w (w.alloc o) := (Below.refl _ _).alloc (Nat.le_refl _) _
theorem sy_box {w0 w w1 : World} {B room T : Nat} {X : Nat → Prop} {S : BS} (h : BrX w0 w B X S room T) (hx : ∀ b, X b → b < w.heap.size) (ht : TY w0 w1 w.heap.size (fun b => b < w.heap.size) em) (hb : Below w.heap.size w w1) :
  SyX w0 (w1.alloc (.cells #[Pq B, Pq w.heap.size] 58)) w1.heap.size B w.heap.size X ⟨S, em⟩ room T := by
 obtain ⟨W, hW⟩ : ∃ W, w1.alloc (.cells #[Pq B, Pq w.heap.size] 58) = W := ⟨_, rfl⟩
 have hbW : Below w1.heap.size w1 W := by rw [← hW]; exact balloc w1 _
 have hlt : w1.heap.size < W.heap.size := by rw [← hW, World.size_alloc]; omega
 have hrow : W.heap[w1.heap.size]? = some (.cells #[Pq B, Pq w.heap.size] 58) := by rw [← hW]; exact heap_alloc_new w1 _
 obtain ⟨tg, t1, t2⟩ := ht.over hbW
 rw [hW]
 have hP : tg w1.heap.size = 0 := (t2 _ (.inr ⟨Nat.le_refl _, hlt⟩)).2
 have hc : ∀ i v, (#[Pq B, Pq w.heap.size] : Array Value)[i]? = some v → W.cell? ⟨w1.heap.size, i, none⟩ = some v := fun i v hv => by
  rw [cell_of_row _ _ i _ 58 (0, 0) hrow]; exact hv
 have hbb : Below w.heap.size w W := hb.trans (hbW.mono hb.size)
 refine ⟨tg, hc 0 _ rfl, hc 1 _ rfl, Nat.le_trans h.bel.size hb.size, t1, hP, ?_, fun b hX => ⟨?_, ?_⟩⟩
 ·refine br_only h (F := fun _ => False) ⟨hbb.os, hbb.tape, hbb.output, hbb.size, fun k hk _ => hbb.block k hk⟩ (fun b e => e.elim) (fun b e => e.elim) fun b hy => ?_
  rcases hy with hy | hy | hy
  ·refine .inr ⟨?_, (t1.own b hy).2⟩
   rcases Nat.lt_or_ge b w.heap.size with hl | hl
   ·exact absurd (t2 b (.inl hl)).2 hy
   ·exact hl
  ·subst hy; exact .inr ⟨hb.size, hlt⟩
  ·exact .inl hy
 ·have := hx b hX; have := hb.size; omega
 ·exact (t2 b (.inl (hx b hX))).2
theorem t_new {w0 w : World} {B room T : Nat} {X : Nat → Prop} {S : BS} (h : BrX w0 w B X S room T) : Calls Tryz.prog 12 #[Pq B] w (fun e w' => ∃ P Q, e = .returned (Pq P) ∧ SyX w0 w' P B Q X ⟨S, em⟩ room T ∧ Below w.heap.size w w') := by
 have HY := Lib.hid (ds.y_new (w := w) h.bel)
 have HS := Lib.hid (fun w1 ht hb => sy_box (w1 := w1) h (fun b hb => br_xlt h hb) ht hb)
 clear h
 go_enter Tryz.func12, Tryz.ntmps12
 go_wp2_with fail
 refine HY.out.mono ?_
 rintro _ w1 ⟨rfl, ht, hb⟩
 have H1 := Lib.hid (HS.out w1 ht hb)
 have HB := Lib.hid (hb.trans ((balloc w1 (.cells #[Pq B, Pq w.heap.size] 58)).mono hb.size))
 clear ht hb HS HY
 go_wp2_with fail
 go_ret
 exact ⟨_, _, rfl, H1.out, HB.out⟩
theorem t_new0 (w : World) : Calls Tryz.prog 12 #[.pointer none] w (fun e w' => e = .returned (.pointer none) ∧ w' = w) := by
 go_enter Tryz.func12, Tryz.ntmps12
 go_wp2_with fail
 go_ret
 exact ⟨rfl, rfl⟩
section
variable {w0 w : World} {P B Q room T : Nat} {X : Nat → Prop} {y : Sy}
theorem t_branch (h : SyX w0 w P B Q X y room T) : Calls Tryz.prog 21 #[Pq P] w (fun e w' => e = .returned (Pq B) ∧ w = w') := by
 have c0 := h.c0
 clear h
 go_enter Tryz.func21, Tryz.ntmps21
 go_wp2_with fail
 go_ret
 exact ⟨rfl, rfl⟩
theorem t_open (h : SyX w0 w P B Q X y room T) : Calls Tryz.prog 22 #[Pq P] w (IntsE w (allT y.T 32)) := by
 have HA := Lib.hid (p_all h)
 have c1 := h.c1
 unfold IntsE at HA ⊢
 clear h
 go_enter Tryz.func22, Tryz.ntmps22
 go_wp2_with fail
 refine HA.out.mono ?_
 rintro _ w2 ⟨v, rfl, h1, h2⟩
 have HB := Lib.hid (And.intro h1 h2)
 clear h1 h2 HA
 go_wp2_with fail
 go_ret
 exact ⟨v, rfl, HB.out⟩
end
def CVal (c : Cal) : Value := .agg #[.int .i64 c.op, .int .i64 c.fd, .int .i64 c.flag, .int .i64 c.n, .int .i64 c.off, .string c.a, .string c.b]
def largeB (c : Cal) : Bool := decide (4096 < c.a.size) || decide (4096 < c.b.size)
theorem large_no {c : Cal} (h : largeB c = false) : c.a.size ≤ 4096 ∧ c.b.size ≤ 4096 := by
 unfold largeB at h
 simp at h
 exact h
theorem large_any (c : Cal) (w : World) (ha : c.a.size ≤ maxLen) (hb : c.b.size ≤ maxLen) : Calls Tryz.prog 16 #[CVal c] w (fun e w' => e = .returned (.bool (largeB c)) ∧ Below w.heap.size w w') := by
 obtain ⟨co, cf, cl, cn, cx, ca, cb⟩ := c
 unfold CVal largeB
 dsimp only at ha hb ⊢
 have ha' : ca.size ≤ 9223372036854775807 := ha
 have hb' : cb.size ≤ 9223372036854775807 := hb
 have HB := Lib.hid (balloc w (.cells #[.int .i64 co, .int .i64 cf, .int .i64 cl, .int .i64 cn, .int .i64 cx, .string ca, .string cb] 34))
 by_cases h1 : 4096 < ca.size
 ·have h1' : (ca.size : Int) > 4096 := by omega
  rw [decide_eq_true h1]
  go_enter Tryz.func16, Tryz.ntmps16
  go_wp2_with fail
  go_ret
  exact ⟨rfl, HB.out⟩
 ·have h1' : ¬ ((ca.size : Int) > 4096) := by omega
  rw [decide_eq_false h1]
  by_cases h2 : 4096 < cb.size
  ·have h2' : (cb.size : Int) > 4096 := by omega
   rw [decide_eq_true h2]
   go_enter Tryz.func16, Tryz.ntmps16
   go_wp2_with fail
   go_ret
   exact ⟨rfl, HB.out⟩
  ·have h2' : ¬ ((cb.size : Int) > 4096) := by omega
   rw [decide_eq_false h2]
   go_enter Tryz.func16, Tryz.ntmps16
   go_wp2_with fail
   go_ret
   exact ⟨rfl, HB.out⟩
end Go.Proofs.YtpmpbmjjlccbbaaGreat.tr
namespace Go.Proofs.YtpmpbmjjlccbbaaGreat.tr
open Go.ChangeShapes Go.WideShapes Go.ChangeAt Go.RowKit
open wk (e0)
section
open Go.Deep
variable {H : Type} {enc : TypeId × Value → H} {P : Program} {w : World} {base : Nat} {spare : Nat → Bool} {held : Bool}
theorem open_slice_fields {t e : TypeId} {fs : Array Field} {fuel : Nat} {cs : List Value} {x : DataW H × List MemPlace} (ht : P.underlying t = some (.slice e)) (he : P.underlying e = some (.struct fs))
  (hone : oneCellFields P fs = true) (hC : P.cellsOf e = fs.size) (h : DataW.trod enc P w base spare held fuel t cs = some x) :
  (cs = [.slice none 0 0]) ∨
  ∃ (a : Addr) (len cap m : Nat), cs = [.slice (some a) len cap] ∧ len ≤ cap ∧ cap ≤ maxLen ∧ len ≤ m ∧
   ∀ i, i < m → ∃ (n : Nat), ∀ (j : Nat) (f : Field), fs[j]? = some f → ∃ (v : Value) (y : DataW H × List MemPlace), w.cell? (a.add (i * fs.size + j)) = some v ∧ DataW.trod enc P w base spare held n f.type [v] = some y := by
 rcases open_slice ht h with h0 | ⟨a, len, cap, m, n, D, Pl, hcs, hb, hl, hm, hmm, hx, hi⟩
 ·exact .inl h0.1
 ·refine .inr ⟨a, len, cap, m, hcs, hl, hm, by rw [hmm]; split <;> omega, fun i him => ?_⟩
  obtain ⟨cs', hc, ht'⟩ := hi i him
  rw [hC] at hc
  obtain ⟨ys, n', hn', hy, hlen, hyl, hf⟩ := DataW.trod_struct he ht'
  obtain ⟨_, hcl, hat⟩ := World.cells?_some hc
  refine ⟨n', fun j f hj => ?_⟩
  obtain ⟨ho, hk⟩ := hone_of hone j f hj
  have hjl : j < fs.size := (Array.getElem?_eq_some_iff.1 hj).1
  have hcell := hat j hjl
  have hv : cs'[j]? = some (cs'[j]'(by omega)) := List.getElem?_eq_getElem (by omega)
  have h1 := hf j f hj
  rw [ho, hk] at h1
  have hone' : (cs'.drop j).take 1 = [cs'[j]'(by omega)] := by
   rw [List.drop_eq_getElem_cons (by omega)]
   rfl
  rw [hone'] at h1
  have hys : ys[j]? = some (ys[j]'(by omega)) := List.getElem?_eq_getElem (by omega)
  refine ⟨_, _, ?_, h1.trans hys⟩
  rw [← Go.Deep.add_add, hcell, hv]
end
theorem spot_none {w : World} {a : Addr} {v : Value} (h : w.cell? (a.add 0) = some v) : ∃ b off, a = ⟨b, off, none⟩ ∧ b < w.heap.size := by
 obtain ⟨b, off, spot⟩ := a
 have hs : spot = none := by simpa [Addr.add] using World.cell?_spot h
 subst hs
 exact ⟨b, off, rfl, World.block_lt_of_cell? w _ h⟩
def Cls (w : World) (B : Nat) (A : Option Addr) (n : Nat) (F : Nat → Cal) : Prop := ∀ i, i < n → ∃ b off, A = some ⟨b, off, none⟩ ∧ b < B ∧ w.cell? ⟨b, off + i * 7, none⟩ = some (.int .i64 (F i).op) ∧ w.cell? ⟨b, off + i * 7 + 1, none⟩ = some (.int .i64 (F i).fd) ∧ w.cell? ⟨b, off + i * 7 + 2, none⟩ = some (.int .i64 (F i).flag) ∧ w.cell? ⟨b, off + i * 7 + 3, none⟩ = some (.int .i64 (F i).n) ∧ w.cell? ⟨b, off + i * 7 + 4, none⟩ = some (.int .i64 (F i).off) ∧ w.cell? ⟨b, off + i * 7 + 5, none⟩ = some (.string (F i).a) ∧ w.cell? ⟨b, off + i * 7 + 6, none⟩ = some (.string (F i).b) ∧ (F i).a.size ≤ maxLen ∧ (F i).b.size ≤ maxLen
theorem open_calls {H : Type} {enc : TypeId × Value → H} {W : World} {r : Reach} {b0 : Nat} {sp : Nat → Bool} {held : Bool} {v : Value} {d : DataW H} {p : List MemPlace}
  (hv : Value.okWide Tryz.prog W r b0 22 v) (h : DataW.Trod enc Tryz.prog W 0 sp held 22 v d p) :
  ∃ A n c F, v = .slice A n c ∧ (n ≤ c ∧ c ≤ maxLen) ∧ Cls W W.heap.size A n F := by
 obtain ⟨fuel, hf⟩ := h
 have hcells : v.cells.toList = [v] := by
  obtain ⟨A, n, c, rfl⟩ := okWide_slice Tryz.underlying22 hv
  rfl
 rw [hcells] at hf
 rcases open_slice_fields Tryz.underlying22 Tryz.underlying34 (by kernel_rfl) (by kernel_rfl) hf with e | ⟨a, len, cap, m, e, hl, hm, hlm, hi⟩
 ·injection e with e
  subst e
  exact ⟨none, 0, 0, fun _ => ⟨0, 0, 0, 0, 0, e0, e0⟩, rfl, ⟨Nat.le_refl _, by unfold maxLen; omega⟩, fun i hi => absurd hi (Nat.not_lt_zero _)⟩
 ·injection e with e
  subst e
  have hall : ∀ i, ∃ x : Cal, i < len → ∃ b off, (some a : Option Addr) = some ⟨b, off, none⟩ ∧ b < W.heap.size ∧ W.cell? ⟨b, off + i * 7, none⟩ = some (.int .i64 x.op) ∧ W.cell? ⟨b, off + i * 7 + 1, none⟩ = some (.int .i64 x.fd) ∧ W.cell? ⟨b, off + i * 7 + 2, none⟩ = some (.int .i64 x.flag) ∧ W.cell? ⟨b, off + i * 7 + 3, none⟩ = some (.int .i64 x.n) ∧ W.cell? ⟨b, off + i * 7 + 4, none⟩ = some (.int .i64 x.off) ∧ W.cell? ⟨b, off + i * 7 + 5, none⟩ = some (.string x.a) ∧ W.cell? ⟨b, off + i * 7 + 6, none⟩ = some (.string x.b) ∧ x.a.size ≤ maxLen ∧ x.b.size ≤ maxLen := by
   intro i
   by_cases hil : i < len
   ·obtain ⟨n0, hj0⟩ := hi 0 (by omega)
    obtain ⟨_, _, c00, _⟩ := hj0 0 _ rfl
    obtain ⟨b, off, rfl, hb⟩ := spot_none (by simpa using c00)
    obtain ⟨n, hj⟩ := hi i (by omega)
    obtain ⟨v0, y0, c0, t0⟩ := hj 0 _ rfl
    obtain ⟨v1, y1, c1, t1⟩ := hj 1 _ rfl
    obtain ⟨v2, y2, c2, t2⟩ := hj 2 _ rfl
    obtain ⟨v3, y3, c3, t3⟩ := hj 3 _ rfl
    obtain ⟨v4, y4, c4, t4⟩ := hj 4 _ rfl
    obtain ⟨v5, y5, c5, t5⟩ := hj 5 _ rfl
    obtain ⟨v6, y6, c6, t6⟩ := hj 6 _ rfl
    obtain ⟨z0, e0, _⟩ := DataW.trod_int Tryz.underlying3 t0
    obtain ⟨z1, e1, _⟩ := DataW.trod_int Tryz.underlying3 t1
    obtain ⟨z2, e2, _⟩ := DataW.trod_int Tryz.underlying3 t2
    obtain ⟨z3, e3, _⟩ := DataW.trod_int Tryz.underlying2 t3
    obtain ⟨z4, e4, _⟩ := DataW.trod_int Tryz.underlying2 t4
    obtain ⟨z5, e5, _, hz5⟩ := DataW.trod_string Tryz.underlying9 t5
    obtain ⟨z6, e6, _, hz6⟩ := DataW.trod_string Tryz.underlying9 t6
    injection e0 with e0
    subst e0
    injection e1 with e1
    subst e1
    injection e2 with e2
    subst e2
    injection e3 with e3
    subst e3
    injection e4 with e4
    subst e4
    injection e5 with e5
    subst e5
    injection e6 with e6
    subst e6
    rw [Go.WideShapes.add_plain] at c0 c1 c2 c3 c4 c5 c6
    exact ⟨⟨z0, z1, z2, z3, z4, z5, z6⟩, fun _ => ⟨b, off, rfl, hb, by simpa using c0, by simpa [Nat.add_assoc] using c1, by simpa [Nat.add_assoc] using c2, by simpa [Nat.add_assoc] using c3, by simpa [Nat.add_assoc] using c4, by simpa [Nat.add_assoc] using c5, by simpa [Nat.add_assoc] using c6, hz5, hz6⟩⟩
   ·exact ⟨⟨0, 0, 0, 0, 0, e0, e0⟩, fun h => absurd h hil⟩
  obtain ⟨F, hF⟩ := Classical.axiomOfChoice hall
  exact ⟨some a, len, cap, F, rfl, ⟨hl, hm⟩, hF⟩
theorem law_post {H : Type} {enc : TypeId × Value → H} {P : Program} {f : Func} {s : ChangeSpec} {apart fresh handsOn : Bool} {W W' : World} {args : Array Value} {v : Value} {ds gs : List (DataW H)} {before pa pv : List MemPlace}
  (hW : DataW.Whole enc P f.params.toList s.vars apart W args.toList ds gs before)
  (hres : ∀ (b : Nat) (sp : Nat → Bool) (hd : Bool), DataW.TrodAll enc P W' b sp hd f.resultTypes.toList (v.resultList f.resultTypes.size) (s.fn H (ds ++ gs)).results [])
  (hargs : ∀ sp : Nat → Bool, (∀ p ∈ before, sp p.block = true) → DataW.TrodAll enc P W' 0 sp true f.params.toList args.toList (s.fn H (ds ++ gs)).args pa)
  (hvars : ∀ sp : Nat → Bool, (∀ p ∈ before, sp p.block = true) → DataW.TrodVars enc P W' sp s.vars (s.fn H (ds ++ gs)).vars pv)
  (hps : before = pa ++ pv) (hb : Below W.heap.size W W')
  (_hok : ∀ (j : Nat) (t : TypeId) (r : Value), f.resultTypes[j]? = some t → (v.resultList f.resultTypes.size)[j]? = some r → Value.okWide P W' .any 0 t r) :
  s.post enc P f apart fresh handsOn false W args v W' := by
 have hlt : ∀ p ∈ before, p.block < W.heap.size := fun p hp => hW.lt p hp
 have hold : ∀ p ∈ before, (fun b => decide (b < W.heap.size)) p.block = true := fun p hp => by simpa using hlt p hp
 refine ⟨ds, gs, before, [], pa, pv, hW, hres _ _ _, hargs _ hold, hvars _ hold, World.keptBut_mono (fun p hp => ⟨hp, ?_⟩) (hb.frame (· ∈ before)), fun h => by cases h⟩
 rw [hps, List.mem_append] at hp
 exact Or.inr hp
theorem arg_stays {H : Type} {enc : TypeId × Value → H} {W W' : World} {v : Value} {d : DataW H} {ps before : List MemPlace} {sp : Nat → Bool}
  (h : DataW.Trod enc Tryz.prog W 0 (fun _ => true) true 22 v d ps) (hb : Below W.heap.size W W') (hsub : ∀ x ∈ ps, x ∈ before) (hlt : ∀ x ∈ before, x.block < W.heap.size) (hsp : ∀ x ∈ before, sp x.block = true) (hlaid : laidOutB Tryz.prog = true) :
  DataW.Trod enc Tryz.prog W' 0 sp true 22 v d ps :=
 WideElems.Trod_stays hlaid (by kernel_rfl) (of_decide_eq_true (by kernel_rfl)) h (fun x hx => hb.same (hlt x (hsub x hx))) (fun x hx => hsp x (hsub x hx))
end Go.Proofs.YtpmpbmjjlccbbaaGreat.tr
