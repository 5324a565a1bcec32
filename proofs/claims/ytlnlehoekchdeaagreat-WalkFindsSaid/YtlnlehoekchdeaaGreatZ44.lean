/- Both branches side by side: what a call on one does to the other. 'build': both branches that came of acts. The calls that the laws look at first, as mathematics. -/
import Derived.Test.YtlnlehoekchdeaaGreatZ43
import Derived.Test.YtlnlehoekchdeaaGreatZ26
import Derived.Deep.LoopGhost
import Derived.Test.YtlnlehoekchdeaaGreatZ31
section
namespace Go.Proofs.YtlnlehoekchdeaaGreat.cb
open Go.RowKit
open Go.Proofs.YtlnlehoekchdeaaGreat.br
open Go.Proofs.YtlnlehoekchdeaaGreat.bl (AB Only StoC Pq U8 WR IsStop)
set_option linter.unusedVariables false
set_option linter.unusedSimpArgs false

theorem DB.keepSame {w w' : World} {D lo RS room : Nat} {pl : Nat → Pd} {tag : Nat → Nat} {S : BS} (h : DB w D lo RS pl tag S room) (ho : ∀ b, tag b ≠ 0 → w'.heap[b]? = w.heap[b]?) : DB w' D lo RS pl tag S room := by
  have hD := ho D (by rw [h.tD]; decide)
  have hc : ∀ j, w'.cell? ⟨D, j, none⟩ = w.cell? ⟨D, j, none⟩ := fun j => World.cell?_of_block (a := ⟨D, j, none⟩) hD
  have hf : ∀ j, w'.frozen? ⟨D, j, none⟩ = w.frozen? ⟨D, j, none⟩ := fun j => World.frozen?_of_block (a := ⟨D, j, none⟩) hD
  refine ⟨(hc 0).trans h.c0, fun j => (hf j).trans (h.cf j), StoC.keep h.sto (ho RS (by rw [h.tS]; decide)), fun k hk => (h.ino k hk).keep (fun j _ => hc _) hf (fun b hb => ho b (by rw [h.tI k hk b hb]; omega)), h.tD, h.tS, h.tI, h.lo, fun b hb => ?_⟩
  rcases Nat.eq_zero_or_pos (tag b) with h0 | h0
  · exact h0
  · exfalso
    have h1 : tag b ≠ 0 := by omega
    have h2 := (h.lt h1).1
    have h3 := ho b h1
    rw [Array.getElem?_eq_none hb, Array.getElem?_eq_getElem h2] at h3
    cases h3
theorem BrX.xlt {w0 w : World} {P room T : Nat} {X : Nat → Prop} {S : BS} (h : BrX w0 w P X S room T) {b : Nat} (hb : X b) : b < w.heap.size := by
  obtain ⟨_, _, _, _, _, _, _, _, _, _, _, _, h7⟩ := h
  exact (h7 b hb).1
theorem BrX.hold {w0 w : World} {P room T : Nat} {X : Nat → Prop} {S : BS} (h : BrX w0 w P X S room T) (hT : T ≤ 1000) : ∀ k, (S.ino k).holds ≤ 900000 := fun k => by
  obtain ⟨_, _, _, _, _, _, _, _, _, _, h5, _⟩ := h
  have := h5 k
  omega
theorem BrX.rle {w0 w : World} {P room T : Nat} {X : Nat → Prop} {S : BS} (h : BrX w0 w P X S room T) : room ≤ 65536 := by
  obtain ⟨_, _, _, _, _, _, _, _, _, h4, _⟩ := h
  exact h4
theorem BrX.only_new {w0 w w' : World} {P room T : Nat} {X F : Nat → Prop} {S : BS} (h : BrX w0 w P X S room T) (ho : Only F w w') (hF : ∀ b, F b → X b) (hl : ∀ b, F b → w0.heap.size ≤ b) : BrX w0 w' P (fun b => X b ∨ (w.heap.size ≤ b ∧ b < w'.heap.size)) S room T := by
  have hk := h.only ho hF hl
  obtain ⟨st, qb, qo, pl, tag, Tq, h1, h2, h3, h4, h5, h6, h7⟩ := h
  refine ⟨st, qb, qo, pl, tag, Tq, h1.only ho (fun b hb => (h7 b (hF b hb)).2), h2, h3, h4, h5, hk.bel, fun b hb => ?_⟩
  rcases hb with hb | ⟨h8, h9⟩
  · exact ⟨Nat.lt_of_lt_of_le (h7 b hb).1 ho.size, (h7 b hb).2⟩
  · exact ⟨h9, h1.hi b h8⟩
def Two (w0 w : World) (P D RS : Nat) (X : Nat → Prop) (S1 S2 : BS) (room T : Nat) : Prop :=
  ∃ pl tg, BrX w0 w P (fun b => tg b ≠ 0 ∨ X b) S1 room T ∧ DB w D w0.heap.size RS pl tg S2 room ∧ ∀ b, X b → tg b = 0
section
variable {w0 w w' : World} {P D RS room T : Nat} {X : Nat → Prop} {S1 S2 S1' S2' : BS}
theorem Two.below (h : Two w0 w P D RS X S1 S2 room T) (hb : Below w.heap.size w w') : Two w0 w' P D RS X S1 S2 room T := by
  obtain ⟨pl, tg, h1, h2, h3⟩ := h
  exact ⟨pl, tg, h1.below hb, h2.below hb, h3⟩
theorem Two.drew (h : Two w0 w P D RS X S1 S2 room T) : Two w0 w.drew P D RS X S1 S2 room T := h.below (Below.refl _ _).drew
theorem Two.box (h : Two w0 w P D RS X S1 S2 room T) (hb : Below w.heap.size w w') {Y : Nat → Prop} (hY : ∀ b, Y b → X b ∨ (w.heap.size ≤ b ∧ b < w'.heap.size)) : Two w0 w' P D RS Y S1 S2 room T := by
  obtain ⟨pl, tg, h1, h2, h3⟩ := h
  refine ⟨pl, tg, h1.beside hb fun b hb => ?_, h2.below hb, fun b hb => ?_⟩
  · rcases hb with h4 | h4
    · exact .inl (.inl h4)
    · rcases hY b h4 with h5 | h5
      · exact .inl (.inr h5)
      · exact .inr h5
  · rcases hY b hb with h5 | h5
    · exact h3 b h5
    · exact h2.hi b h5.1
theorem Two.start {w2 : World} {pl : Nat → Pd} {tg : Nat → Nat} (h1 : BrX w0 w P X S1 room T) (h2 : DB w2 D w0.heap.size RS pl tg S2 room) (hb : Below w.heap.size w w2) (ht : ∀ b, tg b ≠ 0 → w.heap.size ≤ b) : Two w0 w2 P D RS No S1 S2 room T :=
  ⟨pl, tg, h1.beside hb fun b hb => hb.elim (fun e => .inr ⟨ht b e, (h2.lt e).1⟩) (fun e => e.elim), h2, fun _ h => h.elim⟩
theorem Two.sub (h : Two w0 w P D RS X S1 S2 room T) {Y : Nat → Prop} (hY : ∀ b, Y b → X b) : Two w0 w P D RS Y S1 S2 room T := h.box (Below.refl _ _) fun b hb => .inl (hY b hb)
theorem Two.forget (h : Two w0 w P D RS X S1 S2 room T) : Two w0 w P D RS No S1 S2 room T := h.box (Below.refl _ _) fun _ h => h.elim
theorem Two.bel (h : Two w0 w P D RS X S1 S2 room T) : Below w0.heap.size w0 w := by obtain ⟨pl, tg, h1, h2, h3⟩ := h; exact h1.bel
theorem Two.good (h : Two w0 w P D RS X S1 S2 room T) : br.Good S1 room := by obtain ⟨pl, tg, h1, h2, h3⟩ := h; exact h1.good
theorem Two.rle (h : Two w0 w P D RS X S1 S2 room T) : room ≤ 65536 := by obtain ⟨pl, tg, h1, h2, h3⟩ := h; exact h1.rle
theorem Two.hold (h : Two w0 w P D RS X S1 S2 room T) (hT : T ≤ 1000) : ∀ k, (S1.ino k).holds ≤ 900000 := by obtain ⟨pl, tg, h1, h2, h3⟩ := h; exact h1.hold hT
theorem Two.xlt (h : Two w0 w P D RS X S1 S2 room T) {b : Nat} (hb : X b) : b < w.heap.size := by obtain ⟨pl, tg, h1, h2, h3⟩ := h; exact h1.xlt (.inr hb)
theorem Two.up (h : Two w0 w P D RS X S1 S2 room T) {T' : Nat} (hT : T ≤ T') : Two w0 w P D RS X S1 S2 room T' := by obtain ⟨pl, tg, h1, h2, h3⟩ := h; exact ⟨pl, tg, h1.up hT, h2, h3⟩
theorem two_code {f : Nat} {args : Array Value} {v : Value} (h : Two w0 w P D RS X S1 S2 room T) (hc : ∀ Y, BrX w0 w P Y S1 room T → Calls Tryz.prog f args w (fun e w' => e = .returned v ∧ BrX w0 w' P Y S1' room (T + 1) ∧ Same Y w w')) :
    Calls Tryz.prog f args w (fun e w' => e = .returned v ∧ Two w0 w' P D RS X S1' S2 room (T + 1) ∧ Same X w w') := by
  obtain ⟨pl, tg, h1, h2, h3⟩ := h
  exact (hc _ h1).mono fun e w' ⟨he, k1, k2⟩ => ⟨he, ⟨pl, tg, k1, h2.keepSame (fun b hb => k2 b (.inl hb)), h3⟩, fun b hb => k2 b (.inr hb)⟩
theorem two_next {pl pl' : Nat → Pd} {tg tg' : Nat → Nat} (h1 : BrX w0 w P (fun b => tg b ≠ 0 ∨ X b) S1 room T) (h2 : DB w D w0.heap.size RS pl tg S2 room) (h3 : ∀ b, X b → tg b = 0) (k1 : DB w' D w0.heap.size RS pl' tg' S2' room) (k2 : Stp w w' tg tg') :
    Two w0 w' P D RS X S1 S2' room T ∧ Same X w w' := by
  refine ⟨⟨pl', tg', (h1.only_new k2.o (fun b hb => .inl hb) (fun b hb => (h2.lt hb).2)).sub fun b hb => ?_, k1, fun b hb => (k2.tg b (h1.xlt (.inr hb))).trans (h3 b hb)⟩, fun b hb => k2.o.block b (h1.xlt (.inr hb)) (fun e => e (h3 b hb))⟩
  rcases hb with h4 | h4
  · rcases Nat.lt_or_ge b w.heap.size with h5 | h5
    · exact .inl (.inl (by rw [← k2.tg b h5]; exact h4))
    · exact .inr ⟨h5, (k1.lt h4).1⟩
  · exact .inl (.inr h4)
theorem two_doc {f : Nat} {args : Array Value} {v : Value} (h : Two w0 w P D RS X S1 S2 room T) (hc : ∀ pl tg, DB w D w0.heap.size RS pl tg S2 room → Calls Tryz.prog f args w (RetD w D w0.heap.size RS tg v S2' room)) :
    Calls Tryz.prog f args w (fun e w' => e = .returned v ∧ Two w0 w' P D RS X S1 S2' room T ∧ Same X w w') := by
  obtain ⟨pl, tg, h1, h2, h3⟩ := h
  exact (hc _ _ h2).mono fun e w' ⟨he, pl', tg', k1, k2⟩ => ⟨he, two_next h1 h2 h3 k1 k2⟩
theorem WR.eq {b : AB} {used room len p q : Nat} {off e1 e2 : Int} (h : WR b used room off len p e1) (k : WR b used room off len q e2) : p = q ∧ e1 = e2 := by
  rcases h with ⟨a1, a2, a3⟩ | ⟨a1, a2, a3, a4⟩ | ⟨a1, a2, a3, a4⟩ | ⟨a1, a2, a3, a4, a5⟩ <;> rcases k with ⟨b1, b2, b3⟩ | ⟨b1, b2, b3, b4⟩ | ⟨b1, b2, b3, b4⟩ | ⟨b1, b2, b3, b4, b5⟩ <;> first | omega | skip
  have := IsStop.eq a4 b4
  subst this
  exact ⟨rfl, a5.trans b5.symm⟩
end
end Go.Proofs.YtlnlehoekchdeaaGreat.cb
end
section
namespace Go.Proofs.YtlnlehoekchdeaaGreat.cb
open Go.RowKit
open Go.Proofs.YtlnlehoekchdeaaGreat.br
open Go.Proofs.YtlnlehoekchdeaaGreat.bl (Pq)
set_option linter.unusedVariables false
set_option linter.unusedSimpArgs false

theorem results_tmp3' {fn : Func} {p q r : Tmp} (h : fn.results = #[.tmp p, .tmp q, .tmp r]) (tmps : Array Value) (P : Program) (w : World) :
    (results fn tmps).run P w = .ok (.tuple #[tmps.getD p undef, tmps.getD q undef, tmps.getD r undef]) w := by
  simp [results, h]
def BuildE (w0 : World) (e : Ending) (w' : World) : Prop := ∃ (ok : Bool) (P D RS : Nat) (S : BS), e = .returned (.tuple #[Pq P, Pq D, .bool ok]) ∧ Two w0 w' P D RS No S S 9 60
theorem x_new9 {w0 w : World} (hb : Below w0.heap.size w0 w) : Calls Tryz.prog 20 #[.int .i64 9] w (fun e w' => ∃ P, e = .returned (Pq P) ∧ BrX w0 w' P (fun b => b < w.heap.size) fresh 9 0 ∧ Below w.heap.size w w' ∧ w.heap.size ≤ P) := x_new 9 (by decide) hb
theorem rb_new9 (lo : Nat) (w : World) (hlo : lo ≤ w.heap.size) : Calls Tryz.prog 21 #[.int .i64 9] w (fun e w' => ∃ D RS pl tag, e = .returned (Pq D) ∧ DB w' D lo RS pl tag fresh 9 ∧ Below w.heap.size w w' ∧ ∀ b, tag b ≠ 0 → w.heap.size ≤ b) := rb_new 9 lo w (by decide) hlo
theorem box6 (w w' : World) (v0 v1 v2 v3 v4 v5 : Value) (t : TypeId) (h : w' = w.alloc (.cells #[v0, v1, v2, v3, v4, v5] t)) :
    w'.cell? ⟨w.heap.size, 0, none⟩ = some v0 ∧ w'.cell? ⟨w.heap.size, 1, none⟩ = some v1 ∧ w'.cell? ⟨w.heap.size, 2, none⟩ = some v2 ∧ w'.cell? ⟨w.heap.size, 3, none⟩ = some v3 ∧ w'.cell? ⟨w.heap.size, 4, none⟩ = some v4 ∧ w'.cell? ⟨w.heap.size, 5, none⟩ = some v5 ∧ Below w.heap.size w w' ∧ w'.heap.size = w.heap.size + 1 := by
  subst h
  refine ⟨?_, ?_, ?_, ?_, ?_, ?_, dn.below_alloc _ _, World.size_alloc _ _⟩ <;> simp
set_option maxRecDepth 100000 in
set_option maxHeartbeats 8000000 in
theorem build_any (A : Option Addr) (n c : Nat) (F : Nat → Act6) (w0 w : World) (hn : n ≤ maxLen) (hF : Acts w0 w0.heap.size A n F) (hb : Below w0.heap.size w0 w) :
    Calls Tryz.prog 12 #[.slice A n c] w (BuildE w0) := by
  have hnm : n ≤ 9223372036854775807 := hn
  have HA := Lib.hid hF
  have HN := Lib.hid (x_new9 hb)
  have HM := Lib.hid (fun w2 (hlo : w0.heap.size ≤ w2.heap.size) => rb_new9 w0.heap.size w2 hlo)
  clear hn hF hb
  unfold BuildE
  go_enter Tryz.func12, Tryz.ntmps12
  go_wp2_with fail
  refine HN.out.mono ?_
  rintro e w2 ⟨P, rfl, h2, -, -⟩
  have HM2 := Lib.hid (HM.out w2 h2.bel.size)
  have H2 := Lib.hid h2
  clear h2 HN HM
  go_wp2_with fail
  refine HM2.out.mono ?_
  rintro e w3 ⟨D, RS, pl, tg, rfl, h3, hb3, ht3⟩
  have H3 := Lib.hid (Two.start H2.out h3 hb3 ht3)
  clear h3 hb3 ht3 HM2 H2
  go_wp2_with fail
  go_loopg [7] 60 (fun g s7 wr => ∃ (k : Nat) (S : BS), g + k = 60 ∧ k ≤ n ∧ s7 = .int .i64 k ∧ Hid (Two w0 wr P D RS No S S 9 k))
  case atStart => exact ⟨0, fresh, by omega, by omega, rfl, H3⟩
  case round =>
    clear H3
    obtain ⟨k, S, hgk, hk, rfl, HD⟩ := hrel
    by_cases hgo : k < n ∧ k < 60
    · obtain ⟨hkn, hk2⟩ := hgo
      have hbr := HD.out.bel
      obtain ⟨b, off, rfl, hbl, f0, f1, f2, f3, f4, f5, hsa, hsb⟩ := (HA.out.below hbr) k hkn
      have ha : (F k).a.size ≤ 9223372036854775807 := hsa
      have hlen : ((F k).b.size : Int) ≤ 9223372036854775807 := by unfold maxLen at hsb; omega
      have hblr : b < wr.heap.size := Nat.lt_of_lt_of_le hbl hbr.size
      generalize F k = x at *
      obtain ⟨xk, xd, xt, xn, xa, xb⟩ := x
      dsimp only at f0 f1 f2 f3 f4 f5 ha hlen
      clear hsa hsb hbr
      obtain ⟨w4, hw4⟩ : ∃ w4, wr.alloc (.cells #[.int .i64 xk, .int .i64 xd, .int .i64 xt, .int .i64 xn, .string xa, .string xb] 54) = w4 := ⟨_, rfl⟩
      obtain ⟨b0, b1, b2, b3, b4, b5, hb4, hz4⟩ := box6 _ _ _ _ _ _ _ _ _ hw4.symm
      have H4 := Lib.hid (HD.out.box (Y := fun b => b = wr.heap.size) hb4 (fun b hb => .inr (by omega)))
      have hG := HD.out.good
      have hH := HD.out.hold (by omega)
      have hr := HD.out.rle
      obtain ⟨G, hGG⟩ : ∃ G, wr.heap.size = G := ⟨_, rfl⟩
      rw [hGG] at b0 b1 b2 b3 b4 b5 H4
      clear hb4 hz4 HD
      by_cases hlg : (4096 : Int) < (xb.size : Int)
      · clear ha hG hH hr
        go_wp2_with fail
        try rw [Exit.noGoto_ret]
        try simp only [Exit.inBlock, Exit.then]
        refine bodyPost_ret (results_tmp3' rfl _ _ _) rfl ?_
        exact ⟨false, P, D, RS, S, rfl, H4.out.forget.up (by omega)⟩
      have hb : xb.size ≤ 9223372036854775807 := by omega
      by_cases e0 : xk = 0
      · subst e0
        have HC := Lib.hid (fun W (h : Two w0 W P D RS (fun b => b = G) S S 9 k) => two_code h (fun Y hy => x_make hy (by omega) xd xa xn xb ha hb))
        have HDo := Lib.hid (fun W (h : Two w0 W P D RS (fun b => b = G) (S.make xd xa xn xb).2 S 9 (k + 1)) => two_doc h (fun pl tg hd => q_make hd hG xd xa xn xb ha hb))
        generalize S.make xd xa xn xb = r at HC HDo
        obtain ⟨⟨r1, r2⟩, S'⟩ := r
        dsimp only at HC HDo
        clear ha hb hG hH hr
        go_wp2_with fail
        clear hw4 hGG f0 f1 f2 f3 f4 f5
        refine (HC.out _ H4.out).mono ?_
        rintro e w5 ⟨rfl, h5, hs5⟩
        have c1 := (World.cell?_of_block (a := ⟨G, 1, none⟩) (hs5 G rfl)).trans b1
        have c4 := (World.cell?_of_block (a := ⟨G, 4, none⟩) (hs5 G rfl)).trans b4
        have c3 := (World.cell?_of_block (a := ⟨G, 3, none⟩) (hs5 G rfl)).trans b3
        have c5 := (World.cell?_of_block (a := ⟨G, 5, none⟩) (hs5 G rfl)).trans b5
        have H5 := Lib.hid h5
        clear h5 hs5 HC H4 b0 b1 b2 b3 b4 b5
        go_wp2_with fail
        refine (HDo.out _ H5.out).mono ?_
        rintro e w6 ⟨rfl, h6, hs6⟩
        have H6 := Lib.hid h6.forget
        clear h6 hs6 HDo H5 c1 c4 c3 c5
        go_wp2_with fail
        go_roundg (gk - 1)
        case measure => omega
        case rel => exact ⟨k + 1, S', by omega, by omega, by go_num, H6⟩
      by_cases e1 : xk = 1
      · subst e1
        have HC := Lib.hid (fun W (h : Two w0 W P D RS (fun b => b = G) S S 9 k) => two_code h (fun Y hy => x_link hy xd xa xt ha))
        have HDo := Lib.hid (fun W (h : Two w0 W P D RS (fun b => b = G) (S.link xd xa xt).2 S 9 (k + 1)) => two_doc h (fun pl tg hd => q_link hd hG xd xa xt ha))
        generalize S.link xd xa xt = r at HC HDo
        obtain ⟨r1, S'⟩ := r
        dsimp only at HC HDo
        clear ha hb hG hH hr
        go_wp2_with fail
        clear hw4 hGG f0 f1 f2 f3 f4 f5
        refine (HC.out _ H4.out).mono ?_
        rintro e w5 ⟨rfl, h5, hs5⟩
        have c1 := (World.cell?_of_block (a := ⟨G, 1, none⟩) (hs5 G rfl)).trans b1
        have c4 := (World.cell?_of_block (a := ⟨G, 4, none⟩) (hs5 G rfl)).trans b4
        have c2 := (World.cell?_of_block (a := ⟨G, 2, none⟩) (hs5 G rfl)).trans b2
        have H5 := Lib.hid h5
        clear h5 hs5 HC H4 b0 b1 b2 b3 b4 b5
        go_wp2_with fail
        refine (HDo.out _ H5.out).mono ?_
        rintro e w6 ⟨rfl, h6, hs6⟩
        have H6 := Lib.hid h6.forget
        clear h6 hs6 HDo H5 c1 c4 c2
        go_wp2_with fail
        go_roundg (gk - 1)
        case measure => omega
        case rel => exact ⟨k + 1, S', by omega, by omega, by go_num, H6⟩
      by_cases e2 : xk = 2
      · subst e2
        have HC := Lib.hid (fun W (h : Two w0 W P D RS (fun b => b = G) S S 9 k) => two_code h (fun Y hy => x_unlink hy (by omega) xd xa))
        have HDo := Lib.hid (fun W (h : Two w0 W P D RS (fun b => b = G) (S.unlink xd xa).2 S 9 (k + 1)) => two_doc h (fun pl tg hd => q_unlink hd hG hr hH xd xa))
        generalize S.unlink xd xa = r at HC HDo
        obtain ⟨r1, S'⟩ := r
        dsimp only at HC HDo
        clear ha hb hG hH hr
        go_wp2_with fail
        clear hw4 hGG f0 f1 f2 f3 f4 f5
        refine (HC.out _ H4.out).mono ?_
        rintro e w5 ⟨rfl, h5, hs5⟩
        have c1 := (World.cell?_of_block (a := ⟨G, 1, none⟩) (hs5 G rfl)).trans b1
        have c4 := (World.cell?_of_block (a := ⟨G, 4, none⟩) (hs5 G rfl)).trans b4
        have H5 := Lib.hid h5
        clear h5 hs5 HC H4 b0 b1 b2 b3 b4 b5
        go_wp2_with fail
        refine (HDo.out _ H5.out).mono ?_
        rintro e w6 ⟨rfl, h6, hs6⟩
        have H6 := Lib.hid h6.forget
        clear h6 hs6 HDo H5 c1 c4
        go_wp2_with fail
        go_roundg (gk - 1)
        case measure => omega
        case rel => exact ⟨k + 1, S', by omega, by omega, by go_num, H6⟩
      by_cases e3 : xk = 3
      · subst e3
        have HC := Lib.hid (fun W (h : Two w0 W P D RS (fun b => b = G) S S 9 k) => two_code h (fun Y hy => x_rmdir hy (by omega) xd xa))
        have HDo := Lib.hid (fun W (h : Two w0 W P D RS (fun b => b = G) (S.rmdir xd xa).2 S 9 (k + 1)) => two_doc h (fun pl tg hd => q_rmdir hd hG hr hH xd xa))
        generalize S.rmdir xd xa = r at HC HDo
        obtain ⟨r1, S'⟩ := r
        dsimp only at HC HDo
        clear ha hb hG hH hr
        go_wp2_with fail
        clear hw4 hGG f0 f1 f2 f3 f4 f5
        refine (HC.out _ H4.out).mono ?_
        rintro e w5 ⟨rfl, h5, hs5⟩
        have c1 := (World.cell?_of_block (a := ⟨G, 1, none⟩) (hs5 G rfl)).trans b1
        have c4 := (World.cell?_of_block (a := ⟨G, 4, none⟩) (hs5 G rfl)).trans b4
        have H5 := Lib.hid h5
        clear h5 hs5 HC H4 b0 b1 b2 b3 b4 b5
        go_wp2_with fail
        refine (HDo.out _ H5.out).mono ?_
        rintro e w6 ⟨rfl, h6, hs6⟩
        have H6 := Lib.hid h6.forget
        clear h6 hs6 HDo H5 c1 c4
        go_wp2_with fail
        go_roundg (gk - 1)
        case measure => omega
        case rel => exact ⟨k + 1, S', by omega, by omega, by go_num, H6⟩
      by_cases e4 : xk = 4
      · subst e4
        have HC := Lib.hid (fun W (h : Two w0 W P D RS (fun b => b = G) S S 9 k) => two_code h (fun Y hy => x_rename hy (by omega) xd xa xt xb hb))
        have HDo := Lib.hid (fun W (h : Two w0 W P D RS (fun b => b = G) (S.rename xd xa xt xb).2 S 9 (k + 1)) => two_doc h (fun pl tg hd => q_rename hd hG hr hH xd xa xt xb hb))
        generalize S.rename xd xa xt xb = r at HC HDo
        obtain ⟨r1, S'⟩ := r
        dsimp only at HC HDo
        clear ha hb hG hH hr
        go_wp2_with fail
        clear hw4 hGG f0 f1 f2 f3 f4 f5
        refine (HC.out _ H4.out).mono ?_
        rintro e w5 ⟨rfl, h5, hs5⟩
        have c1 := (World.cell?_of_block (a := ⟨G, 1, none⟩) (hs5 G rfl)).trans b1
        have c4 := (World.cell?_of_block (a := ⟨G, 4, none⟩) (hs5 G rfl)).trans b4
        have c2 := (World.cell?_of_block (a := ⟨G, 2, none⟩) (hs5 G rfl)).trans b2
        have c5 := (World.cell?_of_block (a := ⟨G, 5, none⟩) (hs5 G rfl)).trans b5
        have H5 := Lib.hid h5
        clear h5 hs5 HC H4 b0 b1 b2 b3 b4 b5
        go_wp2_with fail
        refine (HDo.out _ H5.out).mono ?_
        rintro e w6 ⟨rfl, h6, hs6⟩
        have H6 := Lib.hid h6.forget
        clear h6 hs6 HDo H5 c1 c4 c2 c5
        go_wp2_with fail
        go_roundg (gk - 1)
        case measure => omega
        case rel => exact ⟨k + 1, S', by omega, by omega, by go_num, H6⟩
      have q0 : (xk == 0) = false := by simpa using e0
      have q1 : (xk == 1) = false := by simpa using e1
      have q2 : (xk == 2) = false := by simpa using e2
      have q3 : (xk == 3) = false := by simpa using e3
      have q4 : (xk == 4) = false := by simpa using e4
      have H6 := Lib.hid (H4.out.forget.up (Nat.le_succ k))
      clear ha hb hG hH hr e0 e1 e2 e3 e4 H4
      go_wp2_with fail
      go_roundg (gk - 1)
      case measure => omega
      case rel => exact ⟨k + 1, S, by omega, by omega, by go_num, H6⟩
    · have hsplit : (k < n ∧ k = 60) ∨ ¬ k < n := by omega
      have H6 := Lib.hid (HD.out.up (T' := 60) (by omega))
      clear hgo HD HA
      rcases hsplit with ⟨hkn, rfl⟩ | hkn
      all_goals
        go_wp2_with fail
        try simp only [Exit.inBlock, Exit.then]
        refine bodyPost_ret (results_tmp3' rfl _ _ _) rfl ?_
        exact ⟨true, P, D, RS, S, rfl, H6.out⟩
end Go.Proofs.YtlnlehoekchdeaaGreat.cb
end
section
namespace Go.Proofs.YtlnlehoekchdeaaGreat.cb
open Go.RowKit
open Go.Proofs.YtlnlehoekchdeaaGreat.br
open Go.Proofs.YtlnlehoekchdeaaGreat.wk (walkT Tr Rs r0 e0 dot2 dot1 pe pn pd slash)
set_option linter.unusedVariables false

/-- The walk with so many steps at most. -/
def walkF (X : Tr) (fol : Bool) : Nat → Nat → Int → List ByteArray → Bool → Option Rs
  | 0, _, _, _, _ => none
  | _ + 1, _, a, [], _ => some ((a, e0, a), 0)
  | f + 1, m, a, n :: r, d =>
    if X.kind a ≠ 2 then some (r0, 20)
    else if n = dot2 then walkF X fol f m (X.parent a) r d
    else if n = dot1 then walkF X fol f m a r d
    else if (X.get a n).2 ≠ 0 then (if (X.get a n).2 = 2 ∧ r = [] then some ((a, n, 0), 2) else some (r0, (X.get a n).2))
    else if X.kind (X.get a n).1 = 3 ∧ (r ≠ [] ∨ fol = true ∨ d = true) then
      if m = 0 then some (r0, 40)
      else if (X.target (X.get a n).1).2 ≠ 0 then some (r0, (X.target (X.get a n).1).2)
        else if pe (X.target (X.get a n).1).1 ≠ 0 then some (r0, pe (X.target (X.get a n).1).1)
        else if 400 < (pn (X.target (X.get a n).1).1).length + r.length then some (r0, 36)
        else walkF X fol f (m - 1) (if slash (X.target (X.get a n).1).1 = true then 1 else a) (pn (X.target (X.get a n).1).1 ++ r) (if r = [] then d || pd (X.target (X.get a n).1).1 else d)
    else if r = [] then (if d = true ∧ X.kind (X.get a n).1 ≠ 2 then some (r0, 20) else some ((a, n, (X.get a n).1), 0))
    else walkF X fol f m (X.get a n).1 r d
theorem walkF_eq {X : Tr} {fol : Bool} {R : Rs} : ∀ (f m : Nat) (a : Int) (ns : List ByteArray) (d : Bool), walkF X fol f m a ns d = some R → walkT X fol m a ns d = R
  | 0, _, _, _, _, h => by cases h
  | f + 1, m, a, [], d, h => by
    rw [wk.w_nil]
    unfold walkF at h
    injection h
  | f + 1, m, a, n :: r, d, h => by
    unfold walkF at h
    rw [walkT]
    split at h
    · rename_i c; rw [if_pos c]; injection h
    rename_i c; rw [if_neg c]
    split at h
    · rename_i c; rw [if_pos c]; exact walkF_eq f _ _ _ _ h
    rename_i c; rw [if_neg c]
    split at h
    · rename_i c; rw [if_pos c]; exact walkF_eq f _ _ _ _ h
    rename_i c; rw [if_neg c]
    split at h
    · rename_i c; rw [if_pos c]
      split at h
      · rename_i c; rw [if_pos c]; injection h
      · rename_i c; rw [if_neg c]; injection h
    rename_i c; rw [if_neg c]
    split at h
    · rename_i c; rw [if_pos c]
      split at h
      · rename_i c; rw [if_pos c]; injection h
      rename_i c; rw [if_neg c]
      split at h
      · rename_i c; rw [if_pos c]; injection h
      rename_i c; rw [if_neg c]
      split at h
      · rename_i c; rw [if_pos c]; injection h
      rename_i c; rw [if_neg c]
      split at h
      · rename_i c; rw [if_pos c]; injection h
      rename_i c; rw [if_neg c]
      exact walkF_eq f _ _ _ _ h
    rename_i c; rw [if_neg c]
    split at h
    · rename_i c; rw [if_pos c]
      split at h
      · rename_i c; rw [if_pos c]; injection h
      · rename_i c; rw [if_neg c]; injection h
    rename_i c; rw [if_neg c]
    exact walkF_eq f _ _ _ _ h

/-- Where a text leads. -/
def atR (S : BS) (s : ByteArray) (fol : Bool) : Rs := if pe s ≠ 0 then (r0, pe s) else walkT (trS S) fol 40 1 (pn s) (pd s)
abbrev tA : ByteArray := ⟨#[97]⟩
abbrev tB : ByteArray := ⟨#[98]⟩
abbrev tC : ByteArray := ⟨#[99]⟩
abbrev tL : ByteArray := ⟨#[108]⟩
abbrev tE : ByteArray := ⟨#[]⟩
def V1 : BS := (fresh.make 1 tA 2 tE).2
def V2 : BS := (V1.make 2 tB 1 tE).2
def V3 : BS := (V2.make 1 tL 3 tA).2
theorem v1 : (fresh.make 1 tA 2 tE).1 = (2, 0) := by decide +kernel
theorem v2 : (V1.make 2 tB 1 tE).1 = (3, 0) := by decide +kernel
theorem v3 : (V2.make 1 tL 3 tA).1 = (4, 0) := by decide +kernel
theorem at_of {S : BS} {s : ByteArray} {fol : Bool} {R : Rs} (f : Nat) (h : pe s = 0) (k : walkF (trS S) fol f 40 1 (pn s) (pd s) = some R) : atR S s fol = R := by
  unfold atR; rw [if_neg (wk.nn h)]; exact walkF_eq f _ _ _ _ k
theorem u1 : atR V3 ⟨#[47, 108, 47, 98]⟩ false = ((2, tB, 3), 0) := at_of 9 (by decide +kernel) (by decide +kernel)
theorem u2 : atR V3 ⟨#[47, 108]⟩ false = ((1, tL, 4), 0) := at_of 9 (by decide +kernel) (by decide +kernel)
theorem u3 : atR V3 ⟨#[47, 108, 47]⟩ false = ((1, tA, 2), 0) := at_of 9 (by decide +kernel) (by decide +kernel)
theorem u4 : atR V3 ⟨#[47, 97, 47, 99]⟩ false = ((2, tC, 0), 2) := at_of 9 (by decide +kernel) (by decide +kernel)
theorem u5 : atR V3 ⟨#[47, 97, 47, 98, 47]⟩ false = (r0, 20) := at_of 9 (by decide +kernel) (by decide +kernel)
end Go.Proofs.YtlnlehoekchdeaaGreat.cb
end
