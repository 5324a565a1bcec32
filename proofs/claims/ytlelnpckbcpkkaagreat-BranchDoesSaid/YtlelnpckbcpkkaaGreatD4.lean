/- The document's own branch: an inode's numbers, its directory's row, its body turned. -/
import Derived.Test.YtlelnpckbcpkkaaGreatD3
import Derived.Deep.MidRow
namespace Go.Proofs.YtlelnpckbcpkkaaGreat.cb
open Go.RowKit
open Go.Proofs.YtlelnpckbcpkkaaGreat.br
open Go.Proofs.YtlelnpckbcpkkaaGreat.dn (En lget lset ldel nerr dotB Sorted getV DuX LaidX)
open Go.Proofs.YtlelnpckbcpkkaaGreat.bl (AB Only StoC Pq cut cutR wr WR U8 RF)
open Go.Proofs.YtlelnpckbcpkkaaGreat.bl.rx (RB RS2 Kp)
set_option linter.unusedVariables false
set_option linter.unusedSimpArgs false

/-- Behind a step of the document's branch. -/
def NxD (w w' : World) (D lo RS : Nat) (tag : Nat → Nat) (S' : BS) (room : Nat) : Prop := ∃ pl' tag', DB w' D lo RS pl' tag' S' room ∧ Stp w w' tag tag'
def RetD (w : World) (D lo RS : Nat) (tag : Nat → Nat) (v : Value) (S' : BS) (room : Nat) (e : Ending) (w' : World) : Prop := e = .returned v ∧ NxD w w' D lo RS tag S' room
section
variable {w w' w2 : World} {D lo RS room : Nat} {pl : Nat → Pd} {tag : Nat → Nat} {S S' : BS}
theorem DB.nx (h : DB w D lo RS pl tag S room) : NxD w w D lo RS tag S room := ⟨pl, tag, h, Stp.refl _ _⟩
theorem DB.nxb (h : DB w D lo RS pl tag S room) (hb : Below w.heap.size w w') : NxD w w' D lo RS tag S room := ⟨pl, tag, h.below hb, Stp.below hb⟩
theorem DB.drew (h : DB w D lo RS pl tag S room) : DB w.drew D lo RS pl tag S room := h.below (Below.refl _ _).drew
theorem NxD.trans {tag1 : Nat → Nat} (h : Stp w w' tag tag1) (k : NxD w' w2 D lo RS tag1 S' room) : NxD w w2 D lo RS tag S' room := by
  obtain ⟨pl', tag', h1, h2⟩ := k
  exact ⟨pl', tag', h1, h.trans h2⟩
theorem DB.loD (h : DB w D lo RS pl tag S room) : D < w.heap.size ∧ lo ≤ w.heap.size ∧ RS ≠ D := by
  have := h.lt (b := D) (by rw [h.tD]; decide)
  exact ⟨this.1, by omega, fun e => by have h1 := h.tS; rw [e, h.tD] at h1; cases h1⟩
theorem DB.links (h : DB w D lo RS pl tag S room) {k : Nat} (hk : k ≤ 200) (n : Int) : NxD w (w.setCell ⟨D, 1 + k * 9 + 1, none⟩ (.int .i64 n)) D lo RS tag ⟨br.upd S.ino k { S.ino k with links := n }, S.used⟩ room :=
  h.set hk 1 (by omega) _ ((h.ino k hk).links n)
theorem DB.holds (h : DB w D lo RS pl tag S room) {k : Nat} (hk : k ≤ 200) (n : Int) : NxD w (w.setCell ⟨D, 1 + k * 9 + 2, none⟩ (.int .i64 n)) D lo RS tag ⟨br.upd S.ino k { S.ino k with holds := n }, S.used⟩ room :=
  h.set hk 2 (by omega) _ ((h.ino k hk).holds n)
theorem DB.marks (h : DB w D lo RS pl tag S room) {k : Nat} (hk : k ≤ 200) (n : Int) : NxD w (w.setCell ⟨D, 1 + k * 9 + 3, none⟩ (.int .i64 n)) D lo RS tag ⟨br.upd S.ino k { S.ino k with marks := n }, S.used⟩ room :=
  h.set hk 3 (by omega) _ ((h.ino k hk).marks n)
theorem DB.parent (h : DB w D lo RS pl tag S room) {k : Nat} (hk : k ≤ 200) (n : Int) : NxD w (w.setCell ⟨D, 1 + k * 9 + 4, none⟩ (.int .i64 n)) D lo RS tag ⟨br.upd S.ino k { S.ino k with parent := n }, S.used⟩ room :=
  h.set hk 4 (by omega) _ ((h.ino k hk).parent n)
theorem DB.stoKeep (h : DB w D lo RS pl tag S room) {F : Nat → Prop} (ho : Only F w w') (hF : ∀ b, F b → b = D) : StoC w' RS room S.used :=
  StoC.keep h.sto (ho.block RS (h.lt (by rw [h.tS]; decide)).1 (fun hf => h.loD.2.2 (hF RS hf)))
/-- A directory's row laid anew. -/
theorem DB.laid (h : DB w D lo RS pl tag S room) {k : Nat} (hk : k ≤ 200) (hD : (S.ino k).kind = 2) {K : List En} {v : Value} {e : Ending} (hl : LaidX w D (1 + k * 9 + 7) v K e w') : NxD w w' D lo RS tag ⟨br.upd S.ino k { S.ino k with dir := K }, S.used⟩ room := by
  have hi := h.ino k hk
  obtain ⟨gg, cap, hg, hd⟩ := hl.dux hi.d h.loD.2.1
  obtain ⟨_, gg1, cap1, w4, hb, hg1, hr1, rfl⟩ := hl
  have hc : ∀ j, j ≠ 1 + k * 9 + 7 → (w4.setCell ⟨D, 1 + k * 9 + 7, none⟩ (.slice (some ⟨gg1, 0, none⟩) K.length cap1)).cell? ⟨D, j, none⟩ = w.cell? ⟨D, j, none⟩ := fun j hj => by
    rw [cell_oth _ _ _ _ _ hj]
    exact World.cell?_of_block (a := ⟨D, j, none⟩) (hb.block D h.loD.1)
  have hf : ∀ j, (w4.setCell ⟨D, 1 + k * 9 + 7, none⟩ (.slice (some ⟨gg1, 0, none⟩) K.length cap1)).frozen? ⟨D, j, none⟩ = w.frozen? ⟨D, j, none⟩ := fun j => by
    rw [World.frozen?_setCell]
    exact World.frozen?_of_block (a := ⟨D, j, none⟩) (hb.block D h.loD.1)
  have hb' : ∀ b, b < w.heap.size → b ≠ D → (w4.setCell ⟨D, 1 + k * 9 + 7, none⟩ (.slice (some ⟨gg1, 0, none⟩) K.length cap1)).heap[b]? = w.heap[b]? := fun b h1 h2 => (Below.heap_setCell _ _ _ _ h2).trans (hb.block b h1)
  have ho : Only (fun b => b = D) w (w4.setCell ⟨D, 1 + k * 9 + 7, none⟩ (.slice (some ⟨gg1, 0, none⟩) K.length cap1)) := ⟨hb.os, hb.tape, hb.output, by simpa [World.setCell] using hb.size, hb'⟩
  refine h.turn hk (p' := ⟨(pl k).vB, (pl k).vT, (pl k).T, some gg, cap⟩) ho (fun b hb => .inl hb) (fun j hj => hc j (by omega)) hf ?_ (fun b hb => ?_) (h.stoKeep ho (fun b hb => hb))
  · exact ⟨(hc _ (by omega)).trans hi.c0, (hc _ (by omega)).trans hi.c1, (hc _ (by omega)).trans hi.c2, (hc _ (by omega)).trans hi.c3, (hc _ (by omega)).trans hi.c4,
      rb_keep hi.b (hc _ (by omega)) (hc _ (by omega)) hf (fun g e => hb' g (hi.own (.inl e)).2.1 (hi.own (.inl e)).2.2) (fun g e => hb' g (hi.own (.inr (.inl e))).2.1 (hi.own (.inr (.inl e))).2.2), hd, (hc _ (by omega)).trans hi.c8, hi.nb, fun h2 => absurd hD h2⟩
  · rcases hb with e | e | e
    · exact .inl (.inl e)
    · exact .inl (.inr (.inl e))
    · right
      have : gg = b := by injection e
      omega
/-- A file's body turned. -/
theorem DB.body (h : DB w D lo RS pl tag S room) {k : Nat} (hk : k ≤ 200) (hD : (S.ino k).kind = 1) {u T : Nat} {vB vT : Value} {b' : AB} (hr : RS2 w w' lo D (1 + k * 9 + 5) RS room u (RF D (pl k).vB (pl k).vT) vB vT b' T) : NxD w w' D lo RS tag ⟨br.upd S.ino k { S.ino k with body := b' }, u⟩ room := by
  have hi := h.ino k hk
  have hnd := hi.nd (by rw [hD]; decide)
  have hc : ∀ j, j ≠ 1 + k * 9 + 5 → j ≠ 1 + k * 9 + 6 → w'.cell? ⟨D, j, none⟩ = w.cell? ⟨D, j, none⟩ := fun j h1 h2 => (hr.kp j h1 h2).1
  have hf : ∀ j, w'.frozen? ⟨D, j, none⟩ = w.frozen? ⟨D, j, none⟩ := fun j => by
    by_cases e1 : j = 1 + k * 9 + 5
    · subst e1; rw [hr.r.f0, h.cf]
    · by_cases e2 : j = 1 + k * 9 + 6
      · subst e2; rw [show 1 + k * 9 + 6 = 1 + k * 9 + 5 + 1 from rfl, hr.r.f1, h.cf]
      · exact (hr.kp j e1 e2).2
  refine h.turn hk (p' := ⟨vB, vT, T, (pl k).o, (pl k).c⟩) hr.o (fun b hb => ?_) (fun j hj => hc j (by omega) (by omega)) hf ?_ (fun b hb => ?_) hr.s
  · rcases hb with (e | e | e) | e
    · exact .inl e
    · exact .inr (.inr (.inl e))
    · exact .inr (.inr (.inr (.inl e)))
    · exact .inr (.inl e)
  · exact ⟨(hc _ (by omega) (by omega)).trans hi.c0, (hc _ (by omega) (by omega)).trans hi.c1, (hc _ (by omega) (by omega)).trans hi.c2, (hc _ (by omega) (by omega)).trans hi.c3, (hc _ (by omega) (by omega)).trans hi.c4, hr.r,
      hi.d.of_cell (hc _ (by omega) (by omega)) (hf _) (fun G e => by rw [hnd.1] at e; cases e), (hc _ (by omega) (by omega)).trans hi.c8, fun h2 => absurd hD h2, hi.nd⟩
  · rcases hb with e | e | e
    · rcases hr.f b (.inr (.inl e)) with (h1 | h1 | h1) | h1
      · exact absurd h1 (fun e1 => hr.r.nB (by rw [e, e1]))
      · exact .inl (.inl h1)
      · exact .inl (.inr (.inl h1))
      · exact .inr h1
    · rcases hr.f b (.inr (.inr e)) with (h1 | h1 | h1) | h1
      · exact absurd h1 (fun e1 => hr.r.nT (by rw [e, e1]))
      · exact .inl (.inl h1)
      · exact .inl (.inr (.inl h1))
      · exact .inr h1
    · exact .inl (.inr (.inr e))
/-- An inode laid whole, without rows. -/
theorem DB.blank (h : DB w D lo RS pl tag S room) {k : Nat} (hk : k ≤ 200) {u : Nat} {F : Nat → Prop} {a0 a1 a2 a3 a4 : Int} {t : ByteArray} (ho : Only F w w') (hF : ∀ b, F b → b = D ∨ b = RS ∨ Own (pl k) b)
    (hc : ∀ j, j < 1 + k * 9 ∨ 1 + k * 9 + 9 ≤ j → w'.cell? ⟨D, j, none⟩ = w.cell? ⟨D, j, none⟩) (hf : ∀ j, w'.frozen? ⟨D, j, none⟩ = w.frozen? ⟨D, j, none⟩) (hs : StoC w' RS room u)
    (c0 : w'.cell? ⟨D, 1 + k * 9, none⟩ = some (.int .i64 a0)) (c1 : w'.cell? ⟨D, 1 + k * 9 + 1, none⟩ = some (.int .i64 a1)) (c2 : w'.cell? ⟨D, 1 + k * 9 + 2, none⟩ = some (.int .i64 a2)) (c3 : w'.cell? ⟨D, 1 + k * 9 + 3, none⟩ = some (.int .i64 a3)) (c4 : w'.cell? ⟨D, 1 + k * 9 + 4, none⟩ = some (.int .i64 a4))
    (c5 : w'.cell? ⟨D, 1 + k * 9 + 5, none⟩ = some (.slice none 0 0)) (c6 : w'.cell? ⟨D, 1 + k * 9 + 6, none⟩ = some (.slice none 0 0)) (c7 : w'.cell? ⟨D, 1 + k * 9 + 7, none⟩ = some (.slice none 0 0)) (c8 : w'.cell? ⟨D, 1 + k * 9 + 8, none⟩ = some (.string t)) :
    NxD w w' D lo RS tag ⟨br.upd S.ino k ⟨a0, a1, a2, a3, a4, abE, [], t⟩, u⟩ room :=
  h.turn hk (p' := pd0) ho hF hc hf (DI.blank c0 c1 c2 c3 c4 c5 c6 c7 c8 (fun j => (hf j).trans (h.cf j))) (fun b hb => absurd hb (own0 b)) hs
def blankL (a0 a1 a2 a3 a4 : Int) (t : ByteArray) : List Value := [.int .i64 a0, .int .i64 a1, .int .i64 a2, .int .i64 a3, .int .i64 a4, .slice none 0 0, .slice none 0 0, .slice none 0 0, .string t]
theorem one9 (a0 a1 a2 a3 a4 : Int) (t : ByteArray) : (#[Value.int .i64 a0, .int .i64 a1, .int .i64 a2, .int .i64 a3, .int .i64 a4, .slice none 0 0, .slice none 0 0, .slice none 0 0, .string t] : Array Value).all (·.oneCell') = true := by
  simp [Value.oneCell']
set_option maxRecDepth 100000 in
theorem store9 (w3 : World) (D o : Nat) (a0 a1 a2 a3 a4 : Int) (t : ByteArray) (ht : w3.there D o 9) :
    (Instr.storeAt 48 (.pointer (some ⟨D, o, none⟩)) (.agg #[.int .i64 a0, .int .i64 a1, .int .i64 a2, .int .i64 a3, .int .i64 a4, .slice none 0 0, .slice none 0 0, .slice none 0 0, .string t])).run Tryz.prog w3 = .ok () (w3.setCells D o (blankL a0 a1 a2 a3 a4 t)) :=
  run_storeAt_mid (P := Tryz.prog) w3 D o 48 _ ht (by kernel_rfl) (one9 a0 a1 a2 a3 a4 t)
theorem only_sets (D : Nat) : ∀ (vs : List Value) (o : Nat) (w : World), Only (fun b => b = D) w (w.setCells D o vs)
  | [], _, w => Only.refl _ w
  | v :: r, o, w => (only_set w D o v).trans (only_sets D r (o + 1) _)
theorem DB.there (h : DB w D lo RS pl tag S room) {k : Nat} (hk : k ≤ 200) : w.there D (1 + k * 9) 9 := fun j hj => by
  have hi := h.ino k hk
  refine ⟨?_, h.cf _⟩
  match j, hj with
  | 0, _ => rw [Nat.add_zero, hi.c0]; rfl
  | 1, _ => rw [hi.c1]; rfl
  | 2, _ => rw [hi.c2]; rfl
  | 3, _ => rw [hi.c3]; rfl
  | 4, _ => rw [hi.c4]; rfl
  | 5, _ => rw [hi.b.c0]; rfl
  | 6, _ => have := hi.b.c1; rw [show 1 + k * 9 + 6 = 1 + k * 9 + 5 + 1 from rfl, this]; rfl
  | 7, _ => rw [hi.d.d0]; rfl
  | 8, _ => rw [hi.c8]; rfl
/-- An inode laid whole behind a turn of its body. -/
theorem DB.layOver (h : DB w D lo RS pl tag S room) {k : Nat} (hk : k ≤ 200) {u : Nat} {F : Nat → Prop} {w3 : World} (ho : Only F w w3) (hF : ∀ b, F b → b = D ∨ b = RS ∨ Own (pl k) b)
    (hc : ∀ j, j < 1 + k * 9 ∨ 1 + k * 9 + 9 ≤ j → w3.cell? ⟨D, j, none⟩ = w.cell? ⟨D, j, none⟩) (hf : ∀ j, w3.frozen? ⟨D, j, none⟩ = w.frozen? ⟨D, j, none⟩) (hs : StoC w3 RS room u) (ht : w3.there D (1 + k * 9) 9) (a0 a1 a2 a3 a4 : Int) (t : ByteArray) :
    NxD w (w3.setCells D (1 + k * 9) (blankL a0 a1 a2 a3 a4 t)) D lo RS tag ⟨br.upd S.ino k ⟨a0, a1, a2, a3, a4, abE, [], t⟩, u⟩ room := by
  have hr := World.rangeAt_setCells_same w3 D (1 + k * 9) (blankL a0 a1 a2 a3 a4 t) ht
  have o2 := only_sets D (blankL a0 a1 a2 a3 a4 t) (1 + k * 9) w3
  refine h.blank hk (F := fun b => F b ∨ b = D) ((ho.mono fun b hb => .inl hb).trans (o2.mono fun b hb => .inr hb)) (fun b hb => ?_) (fun j hj => ?_) (fun j => ?_) (StoC.keep hs (o2.block RS (World.block_lt_of_cell? w3 _ hs.c0) h.loD.2.2))
    (hr 0 _ rfl) (hr 1 _ rfl) (hr 2 _ rfl) (hr 3 _ rfl) (hr 4 _ rfl) (hr 5 _ rfl) (hr 6 _ rfl) (hr 7 _ rfl) (hr 8 _ rfl)
  · rcases hb with hb | hb
    · exact hF b hb
    · exact .inl hb
  · rw [World.cell?_setCells_out D _ _ w3 ⟨D, j, none⟩ (fun _ _ => hj)]; exact hc j hj
  · rw [World.frozen?_setCells]; exact hf j
theorem DB.lay (h : DB w D lo RS pl tag S room) {k : Nat} (hk : k ≤ 200) (a0 a1 a2 a3 a4 : Int) (t : ByteArray) :
    NxD w (w.setCells D (1 + k * 9) (blankL a0 a1 a2 a3 a4 t)) D lo RS tag ⟨br.upd S.ino k ⟨a0, a1, a2, a3, a4, abE, [], t⟩, S.used⟩ room :=
  h.layOver hk (Only.refl (fun _ => False) w) (fun _ h => h.elim) (fun _ _ => rfl) (fun _ => rfl) h.sto (h.there hk) a0 a1 a2 a3 a4 t
theorem DB.layBody (h : DB w D lo RS pl tag S room) {k : Nat} (hk : k ≤ 200) {u T : Nat} {vB vT : Value} {b' : AB} {w3 : World} (hr : RS2 w w3 lo D (1 + k * 9 + 5) RS room u (RF D (pl k).vB (pl k).vT) vB vT b' T) (a0 a1 a2 a3 a4 : Int) (t : ByteArray) :
    w3.there D (1 + k * 9) 9 ∧ NxD w (w3.setCells D (1 + k * 9) (blankL a0 a1 a2 a3 a4 t)) D lo RS tag ⟨br.upd S.ino k ⟨a0, a1, a2, a3, a4, abE, [], t⟩, u⟩ room := by
  have hf : ∀ j, w3.frozen? ⟨D, j, none⟩ = w.frozen? ⟨D, j, none⟩ := fun j => by
    by_cases e1 : j = 1 + k * 9 + 5
    · subst e1; rw [hr.r.f0, h.cf]
    · by_cases e2 : j = 1 + k * 9 + 6
      · subst e2; rw [show 1 + k * 9 + 6 = 1 + k * 9 + 5 + 1 from rfl, hr.r.f1, h.cf]
      · exact (hr.kp j e1 e2).2
  have ht : w3.there D (1 + k * 9) 9 := fun j hj => by
    refine ⟨?_, (hf _).trans (h.cf _)⟩
    by_cases e1 : j = 5
    · subst e1; rw [hr.r.c0]; rfl
    · by_cases e2 : j = 6
      · subst e2; rw [show 1 + k * 9 + 6 = 1 + k * 9 + 5 + 1 from rfl, hr.r.c1]; rfl
      · rw [(hr.kp _ (by omega) (by omega)).1]; exact (h.there hk j hj).1
  refine ⟨ht, h.layOver hk hr.o (fun b hb => ?_) (fun j hj => (hr.kp j (by omega) (by omega)).1) hf hr.s ht a0 a1 a2 a3 a4 t⟩
  rcases hb with (e | e | e) | e
  · exact .inl e
  · exact .inr (.inr (.inl e))
  · exact .inr (.inr (.inr (.inl e)))
  · exact .inr (.inl e)
theorem q_ddel (h : DB w D lo RS pl tag S room) (hG : br.Good S room) {I : Nat} (hI : I ≤ 200) (hk : (S.ino I).kind = 2) (s : ByteArray) :
    Calls Tryz.prog 98 #[dn.Px D (1 + I * 9 + 7), .string s] w (RetD w D lo RS tag (getV s (S.ino I).dir) ⟨br.upd S.ino I { S.ino I with dir := ldel s (S.ino I).dir }, S.used⟩ room) :=
  (dn.rdelx_any D (1 + I * 9 + 7) lo _ _ _ s w (by have := hG.1.dirLen I; omega) (h.ino I hI).d).mono fun _ _ hl => ⟨hl.1, h.laid hI hk hl⟩
theorem q_dset (h : DB w D lo RS pl tag S room) {I : Nat} (hI : I ≤ 200) (hk : (S.ino I).kind = 2) (hs : Sorted (S.ino I).dir) (hl : (S.ino I).dir.length ≤ 4000) (hg : ∀ e ∈ (S.ino I).dir, e.1.size ≤ 9223372036854775807) (s : ByteArray) (v : Int) (hm : s.size ≤ 9223372036854775807) (he : nerr s.data.toList = 0) (hd : dotB s = false) (hv : 1 ≤ v) :
    Calls Tryz.prog 97 #[dn.Px D (1 + I * 9 + 7), .string s, .int .i64 v] w (RetD w D lo RS tag (.int .i64 0) ⟨br.upd S.ino I { S.ino I with dir := lset s v (S.ino I).dir }, S.used⟩ room) :=
  (dn.rsetx_ok D (1 + I * 9 + 7) lo _ _ _ s v w hm hg (h.ino I hI).d hs (by omega) he hd (by omega)).mono fun _ _ hl => ⟨hl.1, h.laid hI hk hl⟩
end
end Go.Proofs.YtlelnpckbcpkkaaGreat.cb
