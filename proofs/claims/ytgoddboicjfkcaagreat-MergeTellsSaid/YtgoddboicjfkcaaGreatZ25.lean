/- Part 25 of what is known of the program's functions and of the document's words: contracts, and the mathematics beneath them. -/
import Derived.Test.YtgoddboicjfkcaaGreatProg
import Derived.Test.YtgoddboicjfkcaaGreatZ24
import Derived.Deep.MidRow
import Derived.StillTailTactics
set_option linter.unusedVariables false
set_option linter.unusedSimpArgs false
set_option maxRecDepth 100000
set_option maxHeartbeats 8000000
namespace Go.Proofs.YtgoddboicjfkcaaGreat.cb
open Go.RowKit
open br
open dn (En lget lset ldel nerr dotB Sorted getV DuX LaidX)
open bl (AB Only StoC Pq cut cutR wr WR U8 RF)
open bl.rx (RB RS2 Kp)
def NxD (w w' : World) (D lo RS : Nat) (tag : Nat → Nat) (S' : BS) (room : Nat) : Prop := ∃ pl' tag', DB w' D lo RS pl' tag' S' room ∧ Stp w w' tag tag'
def RetD (w : World) (D lo RS : Nat) (tag : Nat → Nat) (v : Value) (S' : BS) (room : Nat) (e : Ending) (w' : World) : Prop := e = .returned v ∧ NxD w w' D lo RS tag S' room
section
variable {w w' w2 : World} {D lo RS room : Nat} {pl : Nat → Pd} {tag : Nat → Nat} {S S' : BS}
theorem DB.nx (h : DB w D lo RS pl tag S room) : NxD w w D lo RS tag S room := ⟨pl, tag, h, Stp.refl _ _⟩
theorem DB.nxb (h : DB w D lo RS pl tag S room) (hb : Below w.heap.size w w') : NxD w w' D lo RS tag S room := ⟨pl, tag, h.below hb, Stp.below hb⟩
theorem DB.drew (h : DB w D lo RS pl tag S room) : DB w.drew D lo RS pl tag S room := h.below (Below.refl _ _).drew
theorem NxD.trans {tag1 : Nat → Nat} (h : Stp w w' tag tag1) (k : NxD w' w2 D lo RS tag1 S' room) : NxD w w2 D lo RS tag S' room := by
 obtain ⟨pl', tag', h1, h2⟩ := k
 exact ⟨pl', tag', h1, h.trans h2⟩
theorem DB.loD (h : DB w D lo RS pl tag S room) : D < w.heap.size ∧ lo ≤ w.heap.size ∧ RS ≠ D := by
 have := h.lt (b := D) (by rw [h.tD]; decide)
 exact ⟨this.1, by omega, fun e => by have h1 := h.tS; rw [e, h.tD] at h1; cases h1⟩
theorem DB.links (h : DB w D lo RS pl tag S room) {k : Nat} (hk : k ≤ 200) (n : Int) : NxD w (w.setCell ⟨D, 1 + k * 9 + 1, none⟩ (.int .i64 n)) D lo RS tag ⟨br.upd S.ino k { S.ino k with links := n }, S.used⟩ room :=
 h.set hk 1 (by omega) _ ((h.ino k hk).links n)
theorem DB.holds (h : DB w D lo RS pl tag S room) {k : Nat} (hk : k ≤ 200) (n : Int) : NxD w (w.setCell ⟨D, 1 + k * 9 + 2, none⟩ (.int .i64 n)) D lo RS tag ⟨br.upd S.ino k { S.ino k with holds := n }, S.used⟩ room :=
 h.set hk 2 (by omega) _ ((h.ino k hk).holds n)
theorem DB.marks (h : DB w D lo RS pl tag S room) {k : Nat} (hk : k ≤ 200) (n : Int) : NxD w (w.setCell ⟨D, 1 + k * 9 + 3, none⟩ (.int .i64 n)) D lo RS tag ⟨br.upd S.ino k { S.ino k with marks := n }, S.used⟩ room :=
 h.set hk 3 (by omega) _ ((h.ino k hk).marks n)
theorem DB.parent (h : DB w D lo RS pl tag S room) {k : Nat} (hk : k ≤ 200) (n : Int) : NxD w (w.setCell ⟨D, 1 + k * 9 + 4, none⟩ (.int .i64 n)) D lo RS tag ⟨br.upd S.ino k { S.ino k with parent := n }, S.used⟩ room :=
 h.set hk 4 (by omega) _ ((h.ino k hk).parent n)
theorem DB.stoKeep (h : DB w D lo RS pl tag S room) {F : Nat → Prop} (ho : Only F w w') (hF : ∀ b, F b → b = D) : StoC w' RS room S.used :=
 StoC.keep h.sto (ho.block RS (h.lt (by rw [h.tS]; decide)).1 (fun hf => h.loD.2.2 (hF RS hf)))
theorem DB.laid (h : DB w D lo RS pl tag S room) {k : Nat} (hk : k ≤ 200) (hD : (S.ino k).kind = 2) {K : List En} {v : Value} {e : Ending} (hl : LaidX w D (1 + k * 9 + 7) v K e w') : NxD w w' D lo RS tag ⟨br.upd S.ino k { S.ino k with dir := K }, S.used⟩ room := by
 have hi := h.ino k hk
 obtain ⟨gg, cap, hg, hd⟩ := hl.dux hi.d h.loD.2.1
 obtain ⟨_, gg1, cap1, w4, hb, hg1, hr1, rfl⟩ := hl
 have hc : ∀ j, j ≠ 1 + k * 9 + 7 → (w4.setCell ⟨D, 1 + k * 9 + 7, none⟩ (.slice (some ⟨gg1, 0, none⟩) K.length cap1)).cell? ⟨D, j, none⟩ = w.cell? ⟨D, j, none⟩ := fun j hj => by
  rw [cell_oth _ _ _ _ _ hj]
  exact World.cell?_of_block (a := ⟨D, j, none⟩) (hb.block D h.loD.1)
 have hf : ∀ j, (w4.setCell ⟨D, 1 + k * 9 + 7, none⟩ (.slice (some ⟨gg1, 0, none⟩) K.length cap1)).frozen? ⟨D, j, none⟩ = w.frozen? ⟨D, j, none⟩ := fun j => by
  rw [World.frozen?_setCell]
  exact World.frozen?_of_block (a := ⟨D, j, none⟩) (hb.block D h.loD.1)
 have hb' : ∀ b, b < w.heap.size → b ≠ D → (w4.setCell ⟨D, 1 + k * 9 + 7, none⟩ (.slice (some ⟨gg1, 0, none⟩) K.length cap1)).heap[b]? = w.heap[b]? := fun b h1 h2 => (Below.heap_setCell _ _ _ _ h2).trans (hb.block b h1)
 have ho : Only (fun b => b = D) w (w4.setCell ⟨D, 1 + k * 9 + 7, none⟩ (.slice (some ⟨gg1, 0, none⟩) K.length cap1)) := ⟨hb.os, hb.tape, hb.output, by simpa [World.setCell] using hb.size, hb'⟩
 refine h.turn hk (p' := ⟨(pl k).vB, (pl k).vT, (pl k).T, some gg, cap⟩) ho (fun b hb => .inl hb) (fun j hj => hc j (by omega)) hf ?_ (fun b hb => ?_) (h.stoKeep ho (fun b hb => hb))
 ·exact ⟨(hc _ (by omega)).trans hi.c0, (hc _ (by omega)).trans hi.c1, (hc _ (by omega)).trans hi.c2, (hc _ (by omega)).trans hi.c3, (hc _ (by omega)).trans hi.c4,
   rb_keep hi.b (hc _ (by omega)) (hc _ (by omega)) hf (fun g e => hb' g (hi.own (.inl e)).2.1 (hi.own (.inl e)).2.2) (fun g e => hb' g (hi.own (.inr (.inl e))).2.1 (hi.own (.inr (.inl e))).2.2), hd, (hc _ (by omega)).trans hi.c8, hi.nb, fun h2 => absurd hD h2⟩
 ·rcases hb with e | e | e
  ·exact .inl (.inl e)
  ·exact .inl (.inr (.inl e))
  ·right
   have : gg = b := by injection e
   omega
theorem DB.body (h : DB w D lo RS pl tag S room) {k : Nat} (hk : k ≤ 200) (hD : (S.ino k).kind = 1) {u T : Nat} {vB vT : Value} {b' : AB} (hr : RS2 w w' lo D (1 + k * 9 + 5) RS room u (RF D (pl k).vB (pl k).vT) vB vT b' T) : NxD w w' D lo RS tag ⟨br.upd S.ino k { S.ino k with body := b' }, u⟩ room := by
 have hi := h.ino k hk
 have hnd := hi.nd (by rw [hD]; decide)
 have hc : ∀ j, j ≠ 1 + k * 9 + 5 → j ≠ 1 + k * 9 + 6 → w'.cell? ⟨D, j, none⟩ = w.cell? ⟨D, j, none⟩ := fun j h1 h2 => (hr.kp j h1 h2).1
 have hf : ∀ j, w'.frozen? ⟨D, j, none⟩ = w.frozen? ⟨D, j, none⟩ := fun j => by
  by_cases e1 : j = 1 + k * 9 + 5
  ·subst e1; rw [hr.r.f0, h.cf]
  ·by_cases e2 : j = 1 + k * 9 + 6
   ·subst e2; rw [show 1 + k * 9 + 6 = 1 + k * 9 + 5 + 1 from rfl, hr.r.f1, h.cf]
   ·exact (hr.kp j e1 e2).2
 refine h.turn hk (p' := ⟨vB, vT, T, (pl k).o, (pl k).c⟩) hr.o (fun b hb => ?_) (fun j hj => hc j (by omega) (by omega)) hf ?_ (fun b hb => ?_) hr.s
 ·rcases hb with (e | e | e) | e
  ·exact .inl e
  ·exact .inr (.inr (.inl e))
  ·exact .inr (.inr (.inr (.inl e)))
  ·exact .inr (.inl e)
 ·exact ⟨(hc _ (by omega) (by omega)).trans hi.c0, (hc _ (by omega) (by omega)).trans hi.c1, (hc _ (by omega) (by omega)).trans hi.c2, (hc _ (by omega) (by omega)).trans hi.c3, (hc _ (by omega) (by omega)).trans hi.c4, hr.r,
   hi.d.of_cell (hc _ (by omega) (by omega)) (hf _) (fun G e => by rw [hnd.1] at e; cases e), (hc _ (by omega) (by omega)).trans hi.c8, fun h2 => absurd hD h2, hi.nd⟩
 ·rcases hb with e | e | e
  ·rcases hr.f b (.inr (.inl e)) with (h1 | h1 | h1) | h1
   ·exact absurd h1 (fun e1 => hr.r.nB (by rw [e, e1]))
   ·exact .inl (.inl h1)
   ·exact .inl (.inr (.inl h1))
   ·exact .inr h1
  ·rcases hr.f b (.inr (.inr e)) with (h1 | h1 | h1) | h1
   ·exact absurd h1 (fun e1 => hr.r.nT (by rw [e, e1]))
   ·exact .inl (.inl h1)
   ·exact .inl (.inr (.inl h1))
   ·exact .inr h1
  ·exact .inl (.inr (.inr e))
theorem DB.blank (h : DB w D lo RS pl tag S room) {k : Nat} (hk : k ≤ 200) {u : Nat} {F : Nat → Prop} {a0 a1 a2 a3 a4 : Int} {t : ByteArray} (ho : Only F w w') (hF : ∀ b, F b → b = D ∨ b = RS ∨ Own (pl k) b)
  (hc : ∀ j, j < 1 + k * 9 ∨ 1 + k * 9 + 9 ≤ j → w'.cell? ⟨D, j, none⟩ = w.cell? ⟨D, j, none⟩) (hf : ∀ j, w'.frozen? ⟨D, j, none⟩ = w.frozen? ⟨D, j, none⟩) (hs : StoC w' RS room u)
  (c0 : w'.cell? ⟨D, 1 + k * 9, none⟩ = some (.int .i64 a0)) (c1 : w'.cell? ⟨D, 1 + k * 9 + 1, none⟩ = some (.int .i64 a1)) (c2 : w'.cell? ⟨D, 1 + k * 9 + 2, none⟩ = some (.int .i64 a2)) (c3 : w'.cell? ⟨D, 1 + k * 9 + 3, none⟩ = some (.int .i64 a3)) (c4 : w'.cell? ⟨D, 1 + k * 9 + 4, none⟩ = some (.int .i64 a4))
  (c5 : w'.cell? ⟨D, 1 + k * 9 + 5, none⟩ = some (.slice none 0 0)) (c6 : w'.cell? ⟨D, 1 + k * 9 + 6, none⟩ = some (.slice none 0 0)) (c7 : w'.cell? ⟨D, 1 + k * 9 + 7, none⟩ = some (.slice none 0 0)) (c8 : w'.cell? ⟨D, 1 + k * 9 + 8, none⟩ = some (.string t)) :
  NxD w w' D lo RS tag ⟨br.upd S.ino k ⟨a0, a1, a2, a3, a4, abE, [], t⟩, u⟩ room :=
 h.turn hk (p' := pd0) ho hF hc hf (DI.blank c0 c1 c2 c3 c4 c5 c6 c7 c8 (fun j => (hf j).trans (h.cf j))) (fun b hb => absurd hb (own0 b)) hs
def blankL (a0 a1 a2 a3 a4 : Int) (t : ByteArray) : List Value := [.int .i64 a0, .int .i64 a1, .int .i64 a2, .int .i64 a3, .int .i64 a4, .slice none 0 0, .slice none 0 0, .slice none 0 0, .string t]
theorem one9 (a0 a1 a2 a3 a4 : Int) (t : ByteArray) : (#[Value.int .i64 a0, .int .i64 a1, .int .i64 a2, .int .i64 a3, .int .i64 a4, .slice none 0 0, .slice none 0 0, .slice none 0 0, .string t] : Array Value).all (·.oneCell') = true := by
 simp [Value.oneCell']
theorem only_sets (D : Nat) : ∀ (vs : List Value) (o : Nat) (w : World), Only (fun b => b = D) w (w.setCells D o vs)
 | [], _, w => Only.refl _ w
 | v :: r, o, w => (only_set w D o v).trans (only_sets D r (o + 1) _)
theorem DB.there (h : DB w D lo RS pl tag S room) {k : Nat} (hk : k ≤ 200) : w.there D (1 + k * 9) 9 := fun j hj => by
 have hi := h.ino k hk
 refine ⟨?_, h.cf _⟩
 match j, hj with
 | 0, _ => rw [Nat.add_zero, hi.c0]; rfl
 | 1, _ => rw [hi.c1]; rfl
 | 2, _ => rw [hi.c2]; rfl
 | 3, _ => rw [hi.c3]; rfl
 | 4, _ => rw [hi.c4]; rfl
 | 5, _ => rw [hi.b.c0]; rfl
 | 6, _ => have := hi.b.c1; rw [show 1 + k * 9 + 6 = 1 + k * 9 + 5 + 1 from rfl, this]; rfl
 | 7, _ => rw [hi.d.d0]; rfl
 | 8, _ => rw [hi.c8]; rfl
theorem DB.layOver (h : DB w D lo RS pl tag S room) {k : Nat} (hk : k ≤ 200) {u : Nat} {F : Nat → Prop} {w3 : World} (ho : Only F w w3) (hF : ∀ b, F b → b = D ∨ b = RS ∨ Own (pl k) b)
  (hc : ∀ j, j < 1 + k * 9 ∨ 1 + k * 9 + 9 ≤ j → w3.cell? ⟨D, j, none⟩ = w.cell? ⟨D, j, none⟩) (hf : ∀ j, w3.frozen? ⟨D, j, none⟩ = w.frozen? ⟨D, j, none⟩) (hs : StoC w3 RS room u) (ht : w3.there D (1 + k * 9) 9) (a0 a1 a2 a3 a4 : Int) (t : ByteArray) :
  NxD w (w3.setCells D (1 + k * 9) (blankL a0 a1 a2 a3 a4 t)) D lo RS tag ⟨br.upd S.ino k ⟨a0, a1, a2, a3, a4, abE, [], t⟩, u⟩ room := by
 have hr := World.rangeAt_setCells_same w3 D (1 + k * 9) (blankL a0 a1 a2 a3 a4 t) ht
 have o2 := only_sets D (blankL a0 a1 a2 a3 a4 t) (1 + k * 9) w3
 refine h.blank hk (F := fun b => F b ∨ b = D) ((ho.mono fun b hb => .inl hb).trans (o2.mono fun b hb => .inr hb)) (fun b hb => ?_) (fun j hj => ?_) (fun j => ?_) (StoC.keep hs (o2.block RS (World.block_lt_of_cell? w3 _ hs.c0) h.loD.2.2))
  (hr 0 _ rfl) (hr 1 _ rfl) (hr 2 _ rfl) (hr 3 _ rfl) (hr 4 _ rfl) (hr 5 _ rfl) (hr 6 _ rfl) (hr 7 _ rfl) (hr 8 _ rfl)
 ·rcases hb with hb | hb
  ·exact hF b hb
  ·exact .inl hb
 ·rw [World.cell?_setCells_out D _ _ w3 ⟨D, j, none⟩ (fun _ _ => hj)]; exact hc j hj
 ·rw [World.frozen?_setCells]; exact hf j
theorem DB.lay (h : DB w D lo RS pl tag S room) {k : Nat} (hk : k ≤ 200) (a0 a1 a2 a3 a4 : Int) (t : ByteArray) :
  NxD w (w.setCells D (1 + k * 9) (blankL a0 a1 a2 a3 a4 t)) D lo RS tag ⟨br.upd S.ino k ⟨a0, a1, a2, a3, a4, abE, [], t⟩, S.used⟩ room :=
 h.layOver hk (Only.refl (fun _ => False) w) (fun _ h => h.elim) (fun _ _ => rfl) (fun _ => rfl) h.sto (h.there hk) a0 a1 a2 a3 a4 t
theorem DB.layBody (h : DB w D lo RS pl tag S room) {k : Nat} (hk : k ≤ 200) {u T : Nat} {vB vT : Value} {b' : AB} {w3 : World} (hr : RS2 w w3 lo D (1 + k * 9 + 5) RS room u (RF D (pl k).vB (pl k).vT) vB vT b' T) (a0 a1 a2 a3 a4 : Int) (t : ByteArray) :
  w3.there D (1 + k * 9) 9 ∧ NxD w (w3.setCells D (1 + k * 9) (blankL a0 a1 a2 a3 a4 t)) D lo RS tag ⟨br.upd S.ino k ⟨a0, a1, a2, a3, a4, abE, [], t⟩, u⟩ room := by
 have hf : ∀ j, w3.frozen? ⟨D, j, none⟩ = w.frozen? ⟨D, j, none⟩ := fun j => by
  by_cases e1 : j = 1 + k * 9 + 5
  ·subst e1; rw [hr.r.f0, h.cf]
  ·by_cases e2 : j = 1 + k * 9 + 6
   ·subst e2; rw [show 1 + k * 9 + 6 = 1 + k * 9 + 5 + 1 from rfl, hr.r.f1, h.cf]
   ·exact (hr.kp j e1 e2).2
 have ht : w3.there D (1 + k * 9) 9 := fun j hj => by
  refine ⟨?_, (hf _).trans (h.cf _)⟩
  by_cases e1 : j = 5
  ·subst e1; rw [hr.r.c0]; rfl
  ·by_cases e2 : j = 6
   ·subst e2; rw [show 1 + k * 9 + 6 = 1 + k * 9 + 5 + 1 from rfl, hr.r.c1]; rfl
   ·rw [(hr.kp _ (by omega) (by omega)).1]; exact (h.there hk j hj).1
 refine ⟨ht, h.layOver hk hr.o (fun b hb => ?_) (fun j hj => (hr.kp j (by omega) (by omega)).1) hf hr.s ht a0 a1 a2 a3 a4 t⟩
 rcases hb with (e | e | e) | e
 ·exact .inl e
 ·exact .inr (.inr (.inl e))
 ·exact .inr (.inr (.inr (.inl e)))
 ·exact .inr (.inl e)
theorem q_ddel (h : DB w D lo RS pl tag S room) (hG : br.Good S room) {I : Nat} (hI : I ≤ 200) (hk : (S.ino I).kind = 2) (s : ByteArray) :
  Calls Tryz.prog 102 #[dn.Px D (1 + I * 9 + 7), .string s] w (RetD w D lo RS tag (getV s (S.ino I).dir) ⟨br.upd S.ino I { S.ino I with dir := ldel s (S.ino I).dir }, S.used⟩ room) :=
 (dn.rdelx_any D (1 + I * 9 + 7) lo _ _ _ s w (by have := hG.1.dirLen I; omega) (h.ino I hI).d).mono fun _ _ hl => ⟨hl.1, h.laid hI hk hl⟩
theorem q_dset (h : DB w D lo RS pl tag S room) {I : Nat} (hI : I ≤ 200) (hk : (S.ino I).kind = 2) (hs : Sorted (S.ino I).dir) (hl : (S.ino I).dir.length ≤ 4000) (hg : ∀ e ∈ (S.ino I).dir, e.1.size ≤ 9223372036854775807) (s : ByteArray) (v : Int) (hm : s.size ≤ 9223372036854775807) (he : nerr s.data.toList = 0) (hd : dotB s = false) (hv : 1 ≤ v) :
  Calls Tryz.prog 98 #[dn.Px D (1 + I * 9 + 7), .string s, .int .i64 v] w (RetD w D lo RS tag (.int .i64 0) ⟨br.upd S.ino I { S.ino I with dir := lset s v (S.ino I).dir }, S.used⟩ room) :=
 (dn.rsetx_ok D (1 + I * 9 + 7) lo _ _ _ s v w hm hg (h.ino I hI).d hs (by omega) he hd (by omega)).mono fun _ _ hl => ⟨hl.1, h.laid hI hk hl⟩
end
theorem cut_zero (b : AB) : (cut b 0).n = 0 := by
 unfold cut
 rw [if_pos (by omega)]
 unfold AB.n bl.cnt
 simp [bl.cutB]
section
variable {w w' : World} {D lo RS room : Nat} {pl : Nat → Pd} {tag : Nat → Nat} {S : BS}
theorem q_less (h : DB w D lo RS pl tag S room) {I : Nat} (hok : (S.ino I).body.Ok) (hbn : (S.ino I).body.n ≤ S.used) (hur : S.used ≤ 65536) (i1 : 1 ≤ I) (i2 : I ≤ 200) (dl dh : Int) (b1 : 0 ≤ (S.ino I).links - dl) (b2 : (S.ino I).links ≤ 1000000) (b3 : 0 ≤ (S.ino I).holds - dh) (b4 : (S.ino I).holds ≤ 1000000) (b5 : 0 ≤ dl) (b6 : 0 ≤ dh) :
  Calls Tryz.prog 103 #[Pq D, .int .i64 (I : Int), .int .i64 dl, .int .i64 dh] w (RetD w D lo RS tag (.tuple #[]) (S.less (I : Int) dl dh) room) := by
 have hI0 : (0 : Int) ≤ (I : Int) := by omega
 have hI1 : (I : Int) < 201 := by omega
 have hw1 : IntKind.i64.wrap ((S.ino I).links - dl) = (S.ino I).links - dl := IntWalk.i64_in _ (by omega)
 have hw2 : IntKind.i64.wrap ((S.ino I).holds - dh) = (S.ino I).holds - dh := IntWalk.i64_in _ (by omega)
 -- the links
 have c1 := (h.drew.ino I i2).c1
 have f1 := h.drew.cf (1 + I * 9 + 1)
 obtain ⟨pl1, tag1, h1, s1⟩ := h.drew.links i2 ((S.ino I).links - dl)
 have st1 : Stp w (w.drew.setCell ⟨D, 1 + I * 9 + 1, none⟩ (.int .i64 ((S.ino I).links - dl))) tag tag1 := (Stp.below ((Below.refl _ w).drew)).trans s1
 obtain ⟨w1, e1⟩ : ∃ w1, w.drew.setCell ⟨D, 1 + I * 9 + 1, none⟩ (.int .i64 ((S.ino I).links - dl)) = w1 := ⟨_, rfl⟩
 rw [e1] at h1 st1
 -- the holds
 have c2 := (h1.drew.ino I i2).c2
 have f2 := h1.drew.cf (1 + I * 9 + 2)
 obtain ⟨pl2, tag2, h2, s2⟩ := h1.drew.holds i2 ((S.ino I).holds - dh)
 dsimp only at c2 h2
 rw [upd_same] at c2 h2
 rw [upd_upd] at h2
 have st2 : Stp w (w1.drew.setCell ⟨D, 1 + I * 9 + 2, none⟩ (.int .i64 ((S.ino I).holds - dh))) tag tag2 := (st1.trans (Stp.below ((Below.refl _ w1).drew))).trans s2
 obtain ⟨w2, e2⟩ : ∃ w2, w1.drew.setCell ⟨D, 1 + I * 9 + 2, none⟩ (.int .i64 ((S.ino I).holds - dh)) = w2 := ⟨_, rfl⟩
 rw [e2] at h2 st2
 have d1 := (h2.ino I i2).c1
 have d2 := (h2.ino I i2).c2
 dsimp only at d1 d2
 rw [upd_same] at d1 d2
 dsimp only at d1 d2
 by_cases hz : (S.ino I).links - dl = 0 ∧ (S.ino I).holds - dh = 0
 ·-- the body goes
  have hLE := Lib.hid (show S.less (I : Int) dl dh = ⟨br.upd S.ino I Ino.nil, S.used - (S.ino I).body.n⟩ by
   unfold BS.less
   dsimp only
   rw [at_nat, if_pos hz, Int.toNat_natCast])
  rw [hLE.out]
  have hi2 := h2.drew.ino I i2
  dsimp only at hi2
  rw [upd_same] at hi2
  have hc0 := hi2.c0
  have hRF : ¬ RF D (pl2 I).vB (pl2 I).vT RS := by
   rintro (e | e | e)
   ·exact h2.loD.2.2 e
   ·have := h2.tI I i2 RS (.inl e); rw [h2.tS] at this; omega
   ·have := h2.tI I i2 RS (.inr (.inl e)); rw [h2.tS] at this; omega
  have HC := Lib.hid (bl.rx.rcut_any (off := 0) hi2.b hok h2.drew.sto hRF hbn hur h2.drew.loD.2.1)
  have hst := h2.drew.c0
  have hfz : ∀ W, Only (fun b => RF D (pl2 I).vB (pl2 I).vT b ∨ b = RS) w2.drew W → True := fun _ _ => trivial
  have H2 := Lib.hid h2.drew
  have ST2 := Lib.hid (st2.trans (Stp.below ((Below.refl _ w2).drew)))
  have q1 : ((S.ino I).links - dl == 0) = true := by simpa using hz.1
  have q2 : ((S.ino I).holds - dh == 0) = true := by simpa using hz.2
  have HBN := Lib.hid (show S.used + (cut (S.ino I).body 0).n - (S.ino I).body.n = S.used - (S.ino I).body.n from by rw [cut_zero]; rfl)
  obtain ⟨S3, hS3⟩ : ∃ S3, BS.mk (br.upd S.ino I Ino.nil) (S.used - (S.ino I).body.n) = S3 := ⟨_, rfl⟩
  rw [hS3]
  have HS3 := Lib.hid hS3
  clear hS3
  generalize hlk : (S.ino I).links = L at *
  generalize hho : (S.ino I).holds = H at *
  clear hLE hz b1 b2 b3 b4 b5 b6 st2 s1 s2 hfz st1
  go_enter Tryz.func103, Tryz.ntmps103
  go_wp2_with fail
  go_still_tail 13, (by kernel_rfl)
  change wpList _ _ _ _ _ w.drew
  go_wp2_with fail
  go_still_tail 13, (by kernel_rfl)
  change wpList _ _ _ _ _ w1.drew
  go_wp2_with fail
  go_still_tail 10, (by kernel_rfl)
  change wpList _ _ _ _ _ w2.drew
  go_wp2_with fail
  refine HC.out.mono ?_
  rintro e w3 ⟨rfl, vB, vT, T, hr⟩
  obtain ⟨ht, hn⟩ := H2.out.layBody i2 hr 0 0 0 0 0 ⟨#[]⟩
  have HN := Lib.hid hn
  have HT := Lib.hid ht
  clear hr ht hn
  go_wp2_with (refine wpList_store_mid rfl 146 (.tmp 68) (.tmp 65) rfl D (1 + I * 9) #[.int .i64 0, .int .i64 0, .int .i64 0, .int .i64 0, .int .i64 0, .slice none 0 0, .slice none 0 0, .slice none 0 0, .string ⟨#[]⟩] rfl rfl HT.out (by kernel_rfl) (one9 _ _ _ _ _ _) ?_)
  go_end0
  refine ⟨rfl, NxD.trans ST2.out ?_⟩
  have hq := HN.out
  rw [upd_upd, HBN.out] at hq
  rw [← HS3.out]
  exact hq
 ·have hLE := Lib.hid (show S.less (I : Int) dl dh = ⟨br.upd S.ino I { S.ino I with links := (S.ino I).links - dl, holds := (S.ino I).holds - dh }, S.used⟩ by
   unfold BS.less
   dsimp only
   rw [at_nat, if_neg hz]
   unfold BS.put
   rw [Int.toNat_natCast])
  rw [hLE.out]
  have HF := Lib.hid (show RetD w D lo RS tag (.tuple #[]) _ room (.returned (.tuple #[])) w2 from ⟨rfl, pl2, tag2, h2, st2⟩)
  dsimp only
  generalize BS.mk (br.upd S.ino I { S.ino I with links := (S.ino I).links - dl, holds := (S.ino I).holds - dh }) S.used = S2 at *
  generalize (S.ino I).links = L at *
  generalize (S.ino I).holds = H at *
  have hz2 : (L - dl == 0) = false ∨ ((L - dl == 0) = true ∧ (H - dh == 0) = false) := by
   by_cases e : L - dl = 0
   ·exact .inr ⟨by simpa using e, by simpa using fun h => hz ⟨e, h⟩⟩
   ·exact .inl (by simpa using e)
  clear h hok hbn hur h1 h2 s1 s2 st1 st2 hLE hz b1 b2 b3 b4 b5 b6
  rcases hz2 with q1 | ⟨q1, q2⟩
  ·go_enter Tryz.func103, Tryz.ntmps103
   go_wp2_with fail
   go_still_tail 13, (by kernel_rfl)
   change wpList _ _ _ _ _ w.drew
   go_wp2_with fail
   go_still_tail 13, (by kernel_rfl)
   change wpList _ _ _ _ _ w1.drew
   go_wp2_with fail
   go_end0
   exact HF.out
  ·go_enter Tryz.func103, Tryz.ntmps103
   go_wp2_with fail
   go_still_tail 13, (by kernel_rfl)
   change wpList _ _ _ _ _ w.drew
   go_wp2_with fail
   go_still_tail 13, (by kernel_rfl)
   change wpList _ _ _ _ _ w1.drew
   go_wp2_with fail
   go_end0
   exact HF.out
end
section
variable {w w' : World} {D lo RS room : Nat} {pl : Nat → Pd} {tag : Nat → Nat} {S : BS}
theorem q_mark (h : DB w D lo RS pl tag S room) (i m : Int) : Calls Tryz.prog 38 #[Pq D, .int .i64 i, .int .i64 m] w (RetD w D lo RS tag (.int .i64 (S.mark i m).1) (S.mark i m).2 room) := by
 have HI := Lib.hid (q_is h i)
 unfold RetQ at HI
 rcases isI_cases S i with hI | ⟨I, rfl, i1, i2, hn, hI⟩
 ·rw [hI] at HI
  rw [show S.mark i m = (2, S) by unfold BS.mark; rw [if_pos hI]]
  have HF := Lib.hid h.nx
  clear h hI
  go_enter Tryz.func38, Tryz.ntmps38
  go_wp2_with fail
  refine HI.out.mono ?_
  rintro e w3 ⟨rfl, rfl⟩
  go_wp2_with fail
  go_ret
  exact ⟨rfl, HF.out⟩
 ·rw [hI] at HI
  have c3 := (h.ino I i2).c3
  have f3 := h.cf (1 + I * 9 + 3)
  rw [show S.mark (I : Int) m = (0, ⟨br.upd S.ino I { S.ino I with marks := m }, S.used⟩) by unfold BS.mark; rw [if_neg (by rw [hI]; decide), at_nat]; unfold BS.put; rw [Int.toNat_natCast]]
  have HF := Lib.hid (h.marks i2 m)
  have hI0 : (0 : Int) ≤ (I : Int) := by omega
  have hI1 : (I : Int) < 201 := by omega
  dsimp only
  generalize BS.mk (br.upd S.ino I { S.ino I with marks := m }) S.used = S2 at *
  generalize (S.ino I).marks = K at *
  clear h hI hn
  go_enter Tryz.func38, Tryz.ntmps38
  go_wp2_with fail
  refine HI.out.mono ?_
  rintro e w3 ⟨rfl, hw3⟩
  subst hw3
  go_wp2_with fail
  go_ret
  exact ⟨rfl, HF.out⟩
theorem Good_body2 {S : BS} {room : Nat} (h : br.Good S room) (hr : room ≤ 65536) (I : Nat) : (S.ino I).body.Ok ∧ (S.ino I).body.n ≤ S.used ∧ S.used ≤ 65536 := by
 refine ⟨h.1.body I, ?_, by have := h.1.room; omega⟩
 by_cases e : 1 ≤ I ∧ I ≤ 200
 ·rw [h.1.used]; exact sumF_le (f := fun k => (S.ino k).body.n) e.1 e.2
 ·rw [h.1.out I (by omega)]; show abE.n ≤ _; rw [abE_n]; exact Nat.zero_le _
end
section
variable {w w' : World} {D lo RS room : Nat} {pl : Nat → Pd} {tag : Nat → Nat} {S : BS}
theorem drop_less (S : BS) (D : Nat) (s : ByteArray) (i : Int) : S.drop (D : Int) s i = BS.less ⟨br.upd S.ino D { S.ino D with dir := ldel s (S.ino D).dir }, S.used⟩ i 1 0 := by
 unfold BS.drop BS.putDir BS.put
 rw [at_nat, Int.toNat_natCast]
theorem q_unlink (h : DB w D lo RS pl tag S room) (hG : br.Good S room) (hr : room ≤ 65536) (hb : ∀ k, (S.ino k).holds ≤ 900000) (d : Int) (s : ByteArray) : Calls Tryz.prog 36 #[Pq D, .int .i64 d, .string s] w (RetD w D lo RS tag (.int .i64 (S.unlink d s).1) (S.unlink d s).2 room) := by
 have HD := Lib.hid (q_dir h d true)
 unfold RetQ at HD
 have HF := Lib.hid h.nx
 by_cases e1 : S.dirE d true = 0
 case neg =>
  rw [show S.unlink d s = (S.dirE d true, S) by unfold BS.unlink; rw [if_pos e1]]
  generalize S.dirE d true = x at *
  have hq : (x != 0) = true := by simpa using e1
  clear h hG hb e1
  go_enter Tryz.func36, Tryz.ntmps36
  go_wp2_with fail
  refine HD.out.mono ?_
  rintro e w3 ⟨rfl, rfl⟩
  go_wp2_with fail
  go_ret
  exact ⟨rfl, HF.out⟩
 have HG := Lib.hid (q_get h hG d s)
 unfold RetQ at HG
 by_cases e2 : (S.get d s).2 = 0
 case neg =>
  rw [show S.unlink d s = ((S.get d s).2, S) by unfold BS.unlink; rw [if_neg (by simpa using e1), if_pos e2]]
  rw [e1] at HD
  generalize (S.get d s).1 = y at *
  generalize (S.get d s).2 = x at *
  have hq : (x != 0) = true := by simpa using e2
  clear h hG hb e1 e2
  go_enter Tryz.func36, Tryz.ntmps36
  go_wp2_with fail
  refine HD.out.mono ?_
  rintro e w3 ⟨rfl, rfl⟩
  go_wp2_with fail
  refine HG.out.mono ?_
  rintro e w3 ⟨rfl, rfl⟩
  go_wp2_with fail
  go_ret
  exact ⟨rfl, HF.out⟩
 rw [e1] at HD
 rw [e2] at HG
 obtain ⟨N, rfl, n1, n2, hk, hg⟩ := get_ok e2
 have hget : S.get (N : Int) s = ((S.get (N : Int) s).1, 0) := by rw [← e2]
 generalize hv : (S.get (N : Int) s).1 = v at *
 obtain ⟨_, _, I, rfl, i1, i2, i3, i4, i5⟩ := hG.1.lead hg
 have hne : I ≠ N := fun e => by subst e; exact hG.1.own hG.2 hg
 have c0 := (h.ino I i2).c0
 have hI0 : (0 : Int) ≤ (I : Int) := by omega
 have hI1 : (I : Int) < 201 := by omega
 have hN0 : (0 : Int) ≤ (N : Int) := by omega
 have hN1 : (N : Int) < 201 := by omega
 by_cases hk2 : (S.ino I).kind = 2
 ·rw [show S.unlink (N : Int) s = (21, S) by unfold BS.unlink; rw [hget, if_neg (by rw [e1]; decide), if_neg (show ¬ ((0 : Int) ≠ 0) by decide), at_nat, if_pos hk2]]
  rw [hk2] at c0
  have HFs := HF
  clear h hG hb e1 e2 hk hg hget hv i3 i4 i5 hne hk2
  go_enter Tryz.func36, Tryz.ntmps36
  go_wp2_with fail
  refine HD.out.mono ?_
  rintro e w3 ⟨rfl, rfl⟩
  go_wp2_with fail
  refine HG.out.mono ?_
  rintro e w3 ⟨rfl, rfl⟩
  go_wp2_with fail
  go_ret
  exact ⟨rfl, HF.out⟩
 ·generalize hkk : (S.ino I).kind = kk at *
  have hq : (kk == 2) = false := by simpa using hk2
  have hU : S.unlink (N : Int) s = (0, S.drop (N : Int) s (I : Int)) := by unfold BS.unlink; rw [hget, if_neg (by rw [e1]; decide), if_neg (show ¬ ((0 : Int) ≠ 0) by decide), at_nat, if_neg (by rw [hkk]; exact hk2)]
  rw [hU, drop_less]
  dsimp only
  have HDD := Lib.hid (q_ddel h hG n2 hk s)
  unfold RetD at HDD
  obtain ⟨gv, hgv⟩ : ∃ gv, getV s (S.ino N).dir = gv := ⟨_, rfl⟩
  rw [hgv] at HDD
  obtain ⟨S1, hS1⟩ : ∃ S1, BS.mk (br.upd S.ino N { S.ino N with dir := ldel s (S.ino N).dir }) S.used = S1 := ⟨_, rfl⟩
  rw [hS1] at HDD ⊢
  have h1I : S1.ino I = S.ino I := by rw [← hS1]; exact upd_other _ _ hne
  obtain ⟨g1, g2, g3⟩ := Good_body2 hG hr I
  have hnum := hG.1.nums I
  have h9 := hb I
  have ht := hG.1.twenty I
  have HL := Lib.hid (fun w4 pl1 tag1 (h1 : DB w4 D lo RS pl1 tag1 S1 room) => q_less h1 (I := I) (by rw [h1I]; exact g1) (by rw [h1I, ← hS1]; exact g2) (by rw [← hS1]; exact g3) i1 i2 1 0 (by rw [h1I]; omega) (by rw [h1I]; omega) (by rw [h1I]; omega) (by rw [h1I]; omega) (by omega) (by omega))
  unfold RetD at HL
  generalize S1.less (I : Int) 1 0 = S2 at *
  clear h hG hb e1 e2 hk hg hget hv i3 i4 i5 hne hU hgv hS1 h1I g1 g2 g3 hnum h9 ht hkk hk2
  go_enter Tryz.func36, Tryz.ntmps36
  go_wp2_with fail
  refine HD.out.mono ?_
  rintro e w3 ⟨rfl, rfl⟩
  go_wp2_with fail
  refine HG.out.mono ?_
  rintro e w3 ⟨rfl, rfl⟩
  go_wp2_with fail
  refine HDD.out.mono ?_
  rintro e w4 ⟨rfl, pl1, tag1, h1, s1⟩
  have HL4 := Lib.hid (HL.out _ _ _ h1)
  have ST := Lib.hid s1
  clear h1 s1 HL HDD
  go_wp2_with fail
  refine HL4.out.mono ?_
  rintro e w5 ⟨rfl, hn5⟩
  have HN := Lib.hid (NxD.trans ST.out hn5)
  clear hn5 HL4
  go_wp2_with fail
  go_ret
  exact ⟨rfl, HN.out⟩
theorem q_link (h : DB w D lo RS pl tag S room) (hG : br.Good S room) (d : Int) (s : ByteArray) (i : Int) (hm : s.size ≤ 9223372036854775807) : Calls Tryz.prog 65 #[Pq D, .int .i64 d, .string s, .int .i64 i] w (RetD w D lo RS tag (.int .i64 (S.link d s i).1) (S.link d s i).2 room) := by
 have HV := Lib.hid (q_vacant h hG d s hm)
 unfold RetI at HV
 have HF := Lib.hid (fun w' (hb : Below w.heap.size w w') => h.nxb hb)
 by_cases e1 : S.vacant d s = 0
 case neg =>
  rw [show S.link d s i = (S.vacant d s, S) by unfold BS.link; rw [if_pos e1]]
  generalize S.vacant d s = x at *
  have hq : (x != 0) = true := by simpa using e1
  clear h hG e1
  go_enter Tryz.func65, Tryz.ntmps65
  go_wp2_with fail
  refine HV.out.mono ?_
  rintro e w3 ⟨rfl, hb3⟩
  go_wp2_with fail
  go_ret
  exact ⟨rfl, HF.out _ hb3⟩
 rw [e1] at HV
 obtain ⟨N, rfl, n1, n2, hk, hl, hg, hs⟩ := vacant_ok e1
 have HI := Lib.hid (fun w3 (hb : Below w.heap.size w w3) => q_is (h.below hb) i)
 unfold RetQ at HI
 rcases isI_cases S i with hI | ⟨I, rfl, i1, i2, hn, hI⟩
 ·rw [hI] at HI
  rw [show S.link (N : Int) s i = (2, S) by unfold BS.link; rw [if_neg (by simpa using e1), if_pos (.inl hI)]]
  clear h hG e1 hI hk hl hg hs
  go_enter Tryz.func65, Tryz.ntmps65
  go_wp2_with fail
  refine HV.out.mono ?_
  rintro e w3 ⟨rfl, hb3⟩
  have HI3 := Lib.hid (HI.out _ hb3)
  go_wp2_with fail
  refine HI3.out.mono ?_
  rintro e w4 ⟨rfl, rfl⟩
  go_wp2_with fail
  go_ret
  exact ⟨rfl, HF.out _ hb3⟩
 rw [hI] at HI
 have HC := Lib.hid (fun w3 (hb : Below w.heap.size w w3) => (h.below hb).ino I i2)
 have hI0 : (0 : Int) ≤ (I : Int) := by omega
 have hI1 : (I : Int) < 201 := by omega
 have hN0 : (0 : Int) ≤ (N : Int) := by omega
 have hN1 : (N : Int) < 201 := by omega
 by_cases hl0 : (S.ino I).links = 0
 ·rw [show S.link (N : Int) s (I : Int) = (2, S) by unfold BS.link; rw [if_neg (by simpa using e1), if_pos (.inr (by rw [at_nat]; exact hl0))]]
  have HC1 := Lib.hid (fun w3 hb => (HC.out w3 hb).c1)
  rw [hl0] at HC1
  clear h hG e1 hI hk hl hg hs hn hl0 HC
  go_enter Tryz.func65, Tryz.ntmps65
  go_wp2_with fail
  refine HV.out.mono ?_
  rintro e w3 ⟨rfl, hb3⟩
  have HI3 := Lib.hid (HI.out _ hb3)
  have c1 := HC1.out _ hb3
  go_wp2_with fail
  refine HI3.out.mono ?_
  rintro e w4 ⟨rfl, hw4⟩
  subst hw4
  go_wp2_with fail
  go_ret
  exact ⟨rfl, HF.out _ hb3⟩
 have HC0 := Lib.hid (fun w3 hb => (HC.out w3 hb).c0)
 have HC1 := Lib.hid (fun w3 hb => (HC.out w3 hb).c1)
 have hq1 : ((S.ino I).links == 0) = false := by simpa using hl0
 by_cases hk2 : (S.ino I).kind = 2
 ·rw [show S.link (N : Int) s (I : Int) = (1, S) by unfold BS.link; rw [if_neg (by simpa using e1), if_neg (by rw [hI, at_nat]; simpa using hl0), at_nat, if_pos hk2]]
  rw [hk2] at HC0
  generalize (S.ino I).links = ll at *
  clear h hG e1 hI hk hl hg hs hn hl0 HC hk2
  go_enter Tryz.func65, Tryz.ntmps65
  go_wp2_with fail
  refine HV.out.mono ?_
  rintro e w3 ⟨rfl, hb3⟩
  have HI3 := Lib.hid (HI.out _ hb3)
  have c1 := HC1.out _ hb3
  have c0 := HC0.out _ hb3
  go_wp2_with fail
  refine HI3.out.mono ?_
  rintro e w4 ⟨rfl, hw4⟩
  subst hw4
  go_wp2_with fail
  go_ret
  exact ⟨rfl, HF.out _ hb3⟩
 have hq2 : ((S.ino I).kind == 2) = false := by simpa using hk2
 by_cases h20 : 20 ≤ (S.ino I).links
 ·rw [show S.link (N : Int) s (I : Int) = (31, S) by unfold BS.link; rw [if_neg (by simpa using e1), if_neg (by rw [hI, at_nat]; simpa using hl0), at_nat, if_neg hk2, if_pos h20]]
  generalize (S.ino I).links = ll at *
  generalize (S.ino I).kind = kk at *
  clear h hG e1 hI hk hl hg hs hn hl0 HC hk2
  go_enter Tryz.func65, Tryz.ntmps65
  go_wp2_with fail
  refine HV.out.mono ?_
  rintro e w3 ⟨rfl, hb3⟩
  have HI3 := Lib.hid (HI.out _ hb3)
  have c1 := HC1.out _ hb3
  have c0 := HC0.out _ hb3
  go_wp2_with fail
  refine HI3.out.mono ?_
  rintro e w4 ⟨rfl, hw4⟩
  subst hw4
  go_wp2_with fail
  go_ret
  exact ⟨rfl, HF.out _ hb3⟩
 ·have hne : I ≠ N := fun e => by subst e; exact hk2 hk
  have hln := (hG.1.nums I).1
  have hw1 : IntKind.i64.wrap ((S.ino I).links + 1) = (S.ino I).links + 1 := IntWalk.i64_in _ (by omega)
  have hcl : (S.ino N).dir.length ≤ 4000 := hG.1.dirLen N
  have hcg : ∀ e ∈ (S.ino N).dir, e.1.size ≤ 9223372036854775807 := fun e he => by have := nerr_len (hG.1.good N e he).1; omega
  have hcs := hG.1.sorted N
  rw [show S.link (N : Int) s (I : Int) = (0, ⟨br.upd (br.upd S.ino I { S.ino I with links := (S.ino I).links + 1 }) N { S.ino N with dir := lset s (I : Int) (S.ino N).dir }, S.used⟩) by
   unfold BS.link
   rw [if_neg (by simpa using e1), if_neg (by rw [hI, at_nat]; simpa using hl0), at_nat, if_neg hk2, if_neg h20]
   dsimp only
   unfold BS.putDir BS.put
   rw [Int.toNat_natCast, Int.toNat_natCast, at_nat]
   dsimp only
   rw [upd_other _ _ (fun e => hne e.symm)]]
  have HL := Lib.hid (fun w3 (hb : Below w.heap.size w w3) => (h.below hb).drew.links i2 ((S.ino I).links + 1))
  have HFZ := Lib.hid (fun w3 (hb : Below w.heap.size w w3) j => (h.below hb).drew.cf j)
  have hkN : (br.upd S.ino I { S.ino I with links := (S.ino I).links + 1 } N) = S.ino N := upd_other _ _ (fun e => hne e.symm)
  have HS := Lib.hid (fun w4 pl1 tag1 (h1 : DB w4 D lo RS pl1 tag1 ⟨br.upd S.ino I { S.ino I with links := (S.ino I).links + 1 }, S.used⟩ room) => q_dset h1 n2 (by dsimp only; rw [hkN]; exact hk) (by dsimp only; rw [hkN]; exact hcs) (by dsimp only; rw [hkN]; exact hcl) (by dsimp only; rw [hkN]; exact hcg) s (I : Int) hm hs.1 hs.2 (by omega))
  unfold RetD at HS
  dsimp only at HS
  rw [hkN] at HS
  have HB := Lib.hid (fun w3 (hb : Below w.heap.size w w3) => (Stp.below hb : Stp w w3 tag tag).trans (Stp.below ((Below.refl _ w3).drew)))
  dsimp only
  obtain ⟨S2, hS2⟩ : ∃ S2, BS.mk (br.upd (br.upd S.ino I { S.ino I with links := (S.ino I).links + 1 }) N { S.ino N with dir := lset s (I : Int) (S.ino N).dir }) S.used = S2 := ⟨_, rfl⟩
  rw [hS2] at HS ⊢
  obtain ⟨S1, hS1⟩ : ∃ S1, BS.mk (br.upd S.ino I { S.ino I with links := (S.ino I).links + 1 }) S.used = S1 := ⟨_, rfl⟩
  rw [hS1] at HS HL
  generalize (S.ino I).links = ll at *
  generalize (S.ino I).kind = kk at *
  clear h hG e1 hI hk hl hg hs hn hl0 HC hk2 hcl hcg hcs hkN hS1 hS2
  go_enter Tryz.func65, Tryz.ntmps65
  go_wp2_with fail
  refine HV.out.mono ?_
  rintro e w3 ⟨rfl, hb3⟩
  have HI3 := Lib.hid (HI.out _ hb3)
  have c1 := HC1.out _ hb3
  have c0 := HC0.out _ hb3
  have c1d : w3.drew.cell? ⟨D, 1 + I * 9 + 1, none⟩ = some (.int .i64 ll) := c1
  have f1 := HFZ.out _ hb3 (1 + I * 9 + 1)
  obtain ⟨pl1, tag1, h1, s1⟩ := HL.out _ hb3
  have HS3 := Lib.hid (HS.out _ _ _ h1)
  have ST := Lib.hid ((HB.out _ hb3).trans s1)
  clear h1 s1 HS HL HFZ
  go_wp2_with fail
  refine HI3.out.mono ?_
  rintro e w4 ⟨rfl, hw4⟩
  subst hw4
  go_wp2_with fail
  go_still_tail 12, (by kernel_rfl)
  change wpList _ _ _ _ _ (World.drew _)
  go_wp2_with fail
  refine HS3.out.mono ?_
  rintro e w5 ⟨rfl, hn5⟩
  have HN := Lib.hid (NxD.trans ST.out hn5)
  clear hn5 HS3
  go_wp2_with fail
  go_ret
  exact ⟨rfl, HN.out⟩
end
end Go.Proofs.YtgoddboicjfkcaaGreat.cb
