/- The document's own branch: what is only asked of it, on. The document's own branch: an inode's numbers, its directory's row, its body turned. The document's own branch: an inode has a link, or a hold, less. The document's own branch: holds, marks, names that go. -/
import Derived.Test.YtlnlehoekchdeaaGreatZ39
import Derived.Deep.MidRow
import Derived.StillTailTactics
section
namespace Go.Proofs.YtlnlehoekchdeaaGreat.cb
open Go.RowKit
open Go.Proofs.YtlnlehoekchdeaaGreat.br
open Go.Proofs.YtlnlehoekchdeaaGreat.dn (En lget lset ldel nerr dotB Sorted getV DuX LaidX)
open Go.Proofs.YtlnlehoekchdeaaGreat.bl (AB Only StoC Pq cut cutR wr WR U8 RF)
open Go.Proofs.YtlnlehoekchdeaaGreat.bl.rx (RB RS2 Kp)
set_option linter.unusedVariables false
set_option linter.unusedSimpArgs false

section
variable {w w' : World} {D lo RS room : Nat} {pl : Nat → Pd} {tag : Nat → Nat} {S : BS}
set_option maxRecDepth 100000 in
set_option maxHeartbeats 1000000 in
theorem q_kind (h : DB w D lo RS pl tag S room) (i : Int) : Calls Tryz.prog 33 #[Pq D, .int .i64 i] w (RetQ w (.int .i64 (S.kindOf i))) := by
  have HI := Lib.hid (q_is h i)
  unfold RetQ at HI ⊢
  rcases isI_cases S i with hI | ⟨I, rfl, i1, i2, hn, hI⟩
  · rw [hI] at HI
    rw [show S.kindOf i = 0 by unfold BS.kindOf; rw [hI]; rfl]
    clear h hI
    go_enter Tryz.func33, Tryz.ntmps33
    go_wp2_with fail
    refine HI.out.mono ?_
    rintro e w2 ⟨rfl, rfl⟩
    go_wp2_with fail
    go_ret
    exact ⟨rfl, rfl⟩
  · rw [hI] at HI
    rw [show S.kindOf (I : Int) = (S.ino I).kind from kind_of i1 i2]
    have c0 := (h.ino I i2).c0
    generalize (S.ino I).kind = kk at *
    clear h hI hn
    go_enter Tryz.func33, Tryz.ntmps33
    go_wp2_with fail
    refine HI.out.mono ?_
    rintro e w2 ⟨rfl, rfl⟩
    go_wp2_with fail
    go_ret
    exact ⟨rfl, rfl⟩
set_option maxRecDepth 100000 in
set_option maxHeartbeats 1000000 in
theorem q_parent (h : DB w D lo RS pl tag S room) (i : Int) : Calls Tryz.prog 34 #[Pq D, .int .i64 i] w (RetQ w (.int .i64 (S.parentOf i))) := by
  have HI := Lib.hid (q_is h i)
  unfold RetQ at HI ⊢
  rcases isI_cases S i with hI | ⟨I, rfl, i1, i2, hn, hI⟩
  · rw [hI] at HI
    rw [show S.parentOf i = 0 by unfold BS.parentOf; rw [hI]; rfl]
    clear h hI
    go_enter Tryz.func34, Tryz.ntmps34
    go_wp2_with fail
    refine HI.out.mono ?_
    rintro e w2 ⟨rfl, rfl⟩
    go_wp2_with fail
    go_ret
    exact ⟨rfl, rfl⟩
  · rw [hI] at HI
    rw [show S.parentOf (I : Int) = (S.ino I).parent from parent_of i1 i2 hn]
    have c4 := (h.ino I i2).c4
    generalize (S.ino I).parent = kk at *
    clear h hI hn
    go_enter Tryz.func34, Tryz.ntmps34
    go_wp2_with fail
    refine HI.out.mono ?_
    rintro e w2 ⟨rfl, rfl⟩
    go_wp2_with fail
    go_ret
    exact ⟨rfl, rfl⟩
set_option maxRecDepth 100000 in
set_option maxHeartbeats 1000000 in
theorem q_target (h : DB w D lo RS pl tag S room) (i : Int) : Calls Tryz.prog 36 #[Pq D, .int .i64 i] w (RetQ w (.tuple #[.string (S.targetOf i).1, .int .i64 (S.targetOf i).2])) := by
  have HI := Lib.hid (q_is h i)
  unfold RetQ at HI ⊢
  rcases isI_cases S i with hI | ⟨I, rfl, i1, i2, hn, hI⟩
  · rw [hI] at HI
    rw [show S.targetOf i = (⟨#[]⟩, 2) by unfold BS.targetOf; rw [if_pos hI]]
    clear h hI
    go_enter Tryz.func36, Tryz.ntmps36
    go_wp2_with fail
    refine HI.out.mono ?_
    rintro e w2 ⟨rfl, rfl⟩
    go_wp2_with fail
    go_ret2
    exact ⟨rfl, rfl⟩
  · rw [hI] at HI
    have c0 := (h.ino I i2).c0
    have c8 := (h.ino I i2).c8
    by_cases hk : (S.ino I).kind = 3
    · rw [show S.targetOf (I : Int) = ((S.ino I).target, 0) by unfold BS.targetOf; rw [if_neg (by rw [hI]; decide), at_nat, if_neg (by rw [hk]; decide)]]
      rw [hk] at c0
      generalize (S.ino I).target = tt at *
      clear h hI hn hk
      go_enter Tryz.func36, Tryz.ntmps36
      go_wp2_with fail
      refine HI.out.mono ?_
      rintro e w2 ⟨rfl, rfl⟩
      go_wp2_with fail
      go_ret2
      exact ⟨rfl, rfl⟩
    · rw [show S.targetOf (I : Int) = (⟨#[]⟩, 22) by unfold BS.targetOf; rw [if_neg (by rw [hI]; decide), at_nat, if_pos hk]]
      generalize (S.ino I).kind = kk at *
      have hq : (kk != 3) = true := by simpa using hk
      clear h hI hn hk c8
      go_enter Tryz.func36, Tryz.ntmps36
      go_wp2_with fail
      refine HI.out.mono ?_
      rintro e w2 ⟨rfl, rfl⟩
      go_wp2_with fail
      go_ret2
      exact ⟨rfl, rfl⟩
set_option maxRecDepth 100000 in
set_option maxHeartbeats 1000000 in
theorem q_below (h : DB w D lo RS pl tag S room) (hG : br.Good S room) {I : Nat} (hk : (S.ino I).kind = 2) (hl : (S.ino I).links ≠ 0) (top : Int) : Calls Tryz.prog 69 #[Pq D, .int .i64 (I : Int), .int .i64 top] w (RetQ w (.bool (S.below (I : Int) top 300))) := by
  have HH := Lib.hid h
  have HG := Lib.hid hG
  obtain ⟨bv, hbv⟩ : ∃ bv, S.below (I : Int) top 300 = bv := ⟨_, rfl⟩
  rw [hbv]
  have hi := hG.1.num (k := I) (by rw [hk]; decide)
  have HS := Lib.hid (show ∃ C : Nat, (I : Int) = (C : Int) ∧ C ≤ 200 ∧ (S.ino C).kind = 2 ∧ (S.ino C).links ≠ 0 ∧ S.below (I : Int) top 300 = bv from ⟨I, rfl, hi.2, hk, hl, hbv⟩)
  unfold RetQ
  clear h hG hk hl hi hbv
  go_enter Tryz.func69, Tryz.ntmps69
  go_wp2_with fail
  go_loopg [1, 7] 300 (fun g s1 s7 wr => ∃ (z : Int) (k : Nat), g + k = 300 ∧ s1 = .int .i64 z ∧ s7 = .int .i64 (k : Int) ∧ wr = w ∧ Hid (∃ C : Nat, z = (C : Int) ∧ C ≤ 200 ∧ (S.ino C).kind = 2 ∧ (S.ino C).links ≠ 0 ∧ S.below z top (300 - k) = bv))
  case atStart => exact ⟨_, 0, by omega, rfl, rfl, rfl, HS⟩
  case round =>
    clear HS
    obtain ⟨z, k, hg, rfl, rfl, rfl, HZ⟩ := hrel
    obtain ⟨C, rfl, c1, c2, c3, c4⟩ := HZ.out
    by_cases hk : k < 300
    · rw [show 300 - k = (300 - (k + 1)) + 1 by omega] at c4
      unfold BS.below at c4
      rw [at_nat] at c4
      by_cases he : (C : Int) = top
      · rw [decide_eq_true he, Bool.true_or] at c4
        subst he
        subst c4
        clear c2 c3 HZ
        go_wp2_with fail
        try rw [Exit.noGoto_ret]
        go_ret
        exact ⟨rfl, rfl⟩
      · rw [decide_eq_false he, Bool.false_or] at c4
        have d4 := (HH.out.ino C c1).c4
        obtain ⟨p, hp, hp2, hp3, hp4⟩ : ∃ p : Nat, (S.ino C).parent = (p : Int) ∧ p ≤ 200 ∧ (S.ino p).kind = 2 ∧ (S.ino p).links ≠ 0 := by
          by_cases e1 : C = 1
          · subst e1
            have hr := HG.out.1.root
            exact ⟨1, hr.2.2, by omega, hr.1, by rw [hr.2.1]; decide⟩
          · obtain ⟨deep, hd⟩ := HG.out.2
            obtain ⟨p, q1, q2, q3, _⟩ := hd C c2 c3 e1
            exact ⟨p, q1, (HG.out.1.num (k := p) (by rw [q2]; decide)).2, q2, q3⟩
        rw [hp] at d4 c4
        have HZ2 := Lib.hid (show ∃ C : Nat, (p : Int) = (C : Int) ∧ C ≤ 200 ∧ (S.ino C).kind = 2 ∧ (S.ino C).links ≠ 0 ∧ S.below (p : Int) top (300 - (k + 1)) = bv from ⟨p, rfl, hp2, hp3, hp4, c4⟩)
        have hq : ((C : Int) == top) = false := by simpa using he
        clear c2 c3 c4 hp hp2 hp3 hp4 he HZ
        go_wp2_with fail
        go_roundg (gk - 1)
        case measure => omega
        case rel => exact ⟨_, k + 1, by omega, rfl, by go_num, rfl, HZ2⟩
    · obtain rfl : k = 300 := by omega
      have hb : bv = false := by rw [← c4]; rfl
      subst hb
      clear c2 c3 c4 HZ
      go_wp2_with fail
      go_ret
      exact ⟨rfl, rfl⟩
end
end Go.Proofs.YtlnlehoekchdeaaGreat.cb
end
section
namespace Go.Proofs.YtlnlehoekchdeaaGreat.cb
open Go.RowKit
open Go.Proofs.YtlnlehoekchdeaaGreat.br
open Go.Proofs.YtlnlehoekchdeaaGreat.dn (En lget lset ldel nerr dotB Sorted getV DuX LaidX)
open Go.Proofs.YtlnlehoekchdeaaGreat.bl (AB Only StoC Pq cut cutR wr WR U8 RF)
open Go.Proofs.YtlnlehoekchdeaaGreat.bl.rx (RB RS2 Kp)
set_option linter.unusedVariables false
set_option linter.unusedSimpArgs false

/-- Behind a step of the document's branch. -/
def NxD (w w' : World) (D lo RS : Nat) (tag : Nat → Nat) (S' : BS) (room : Nat) : Prop := ∃ pl' tag', DB w' D lo RS pl' tag' S' room ∧ Stp w w' tag tag'
def RetD (w : World) (D lo RS : Nat) (tag : Nat → Nat) (v : Value) (S' : BS) (room : Nat) (e : Ending) (w' : World) : Prop := e = .returned v ∧ NxD w w' D lo RS tag S' room
section
variable {w w' w2 : World} {D lo RS room : Nat} {pl : Nat → Pd} {tag : Nat → Nat} {S S' : BS}
theorem DB.nx (h : DB w D lo RS pl tag S room) : NxD w w D lo RS tag S room := ⟨pl, tag, h, Stp.refl _ _⟩
theorem DB.nxb (h : DB w D lo RS pl tag S room) (hb : Below w.heap.size w w') : NxD w w' D lo RS tag S room := ⟨pl, tag, h.below hb, Stp.below hb⟩
theorem DB.drew (h : DB w D lo RS pl tag S room) : DB w.drew D lo RS pl tag S room := h.below (Below.refl _ _).drew
theorem NxD.trans {tag1 : Nat → Nat} (h : Stp w w' tag tag1) (k : NxD w' w2 D lo RS tag1 S' room) : NxD w w2 D lo RS tag S' room := by
  obtain ⟨pl', tag', h1, h2⟩ := k
  exact ⟨pl', tag', h1, h.trans h2⟩
theorem DB.loD (h : DB w D lo RS pl tag S room) : D < w.heap.size ∧ lo ≤ w.heap.size ∧ RS ≠ D := by
  have := h.lt (b := D) (by rw [h.tD]; decide)
  exact ⟨this.1, by omega, fun e => by have h1 := h.tS; rw [e, h.tD] at h1; cases h1⟩
theorem DB.links (h : DB w D lo RS pl tag S room) {k : Nat} (hk : k ≤ 200) (n : Int) : NxD w (w.setCell ⟨D, 1 + k * 9 + 1, none⟩ (.int .i64 n)) D lo RS tag ⟨br.upd S.ino k { S.ino k with links := n }, S.used⟩ room :=
  h.set hk 1 (by omega) _ ((h.ino k hk).links n)
theorem DB.holds (h : DB w D lo RS pl tag S room) {k : Nat} (hk : k ≤ 200) (n : Int) : NxD w (w.setCell ⟨D, 1 + k * 9 + 2, none⟩ (.int .i64 n)) D lo RS tag ⟨br.upd S.ino k { S.ino k with holds := n }, S.used⟩ room :=
  h.set hk 2 (by omega) _ ((h.ino k hk).holds n)
theorem DB.marks (h : DB w D lo RS pl tag S room) {k : Nat} (hk : k ≤ 200) (n : Int) : NxD w (w.setCell ⟨D, 1 + k * 9 + 3, none⟩ (.int .i64 n)) D lo RS tag ⟨br.upd S.ino k { S.ino k with marks := n }, S.used⟩ room :=
  h.set hk 3 (by omega) _ ((h.ino k hk).marks n)
theorem DB.parent (h : DB w D lo RS pl tag S room) {k : Nat} (hk : k ≤ 200) (n : Int) : NxD w (w.setCell ⟨D, 1 + k * 9 + 4, none⟩ (.int .i64 n)) D lo RS tag ⟨br.upd S.ino k { S.ino k with parent := n }, S.used⟩ room :=
  h.set hk 4 (by omega) _ ((h.ino k hk).parent n)
theorem DB.stoKeep (h : DB w D lo RS pl tag S room) {F : Nat → Prop} (ho : Only F w w') (hF : ∀ b, F b → b = D) : StoC w' RS room S.used :=
  StoC.keep h.sto (ho.block RS (h.lt (by rw [h.tS]; decide)).1 (fun hf => h.loD.2.2 (hF RS hf)))
/-- A directory's row laid anew. -/
theorem DB.laid (h : DB w D lo RS pl tag S room) {k : Nat} (hk : k ≤ 200) (hD : (S.ino k).kind = 2) {K : List En} {v : Value} {e : Ending} (hl : LaidX w D (1 + k * 9 + 7) v K e w') : NxD w w' D lo RS tag ⟨br.upd S.ino k { S.ino k with dir := K }, S.used⟩ room := by
  have hi := h.ino k hk
  obtain ⟨gg, cap, hg, hd⟩ := hl.dux hi.d h.loD.2.1
  obtain ⟨_, gg1, cap1, w4, hb, hg1, hr1, rfl⟩ := hl
  have hc : ∀ j, j ≠ 1 + k * 9 + 7 → (w4.setCell ⟨D, 1 + k * 9 + 7, none⟩ (.slice (some ⟨gg1, 0, none⟩) K.length cap1)).cell? ⟨D, j, none⟩ = w.cell? ⟨D, j, none⟩ := fun j hj => by
    rw [cell_oth _ _ _ _ _ hj]
    exact World.cell?_of_block (a := ⟨D, j, none⟩) (hb.block D h.loD.1)
  have hf : ∀ j, (w4.setCell ⟨D, 1 + k * 9 + 7, none⟩ (.slice (some ⟨gg1, 0, none⟩) K.length cap1)).frozen? ⟨D, j, none⟩ = w.frozen? ⟨D, j, none⟩ := fun j => by
    rw [World.frozen?_setCell]
    exact World.frozen?_of_block (a := ⟨D, j, none⟩) (hb.block D h.loD.1)
  have hb' : ∀ b, b < w.heap.size → b ≠ D → (w4.setCell ⟨D, 1 + k * 9 + 7, none⟩ (.slice (some ⟨gg1, 0, none⟩) K.length cap1)).heap[b]? = w.heap[b]? := fun b h1 h2 => (Below.heap_setCell _ _ _ _ h2).trans (hb.block b h1)
  have ho : Only (fun b => b = D) w (w4.setCell ⟨D, 1 + k * 9 + 7, none⟩ (.slice (some ⟨gg1, 0, none⟩) K.length cap1)) := ⟨hb.os, hb.tape, hb.output, by simpa [World.setCell] using hb.size, hb'⟩
  refine h.turn hk (p' := ⟨(pl k).vB, (pl k).vT, (pl k).T, some gg, cap⟩) ho (fun b hb => .inl hb) (fun j hj => hc j (by omega)) hf ?_ (fun b hb => ?_) (h.stoKeep ho (fun b hb => hb))
  · exact ⟨(hc _ (by omega)).trans hi.c0, (hc _ (by omega)).trans hi.c1, (hc _ (by omega)).trans hi.c2, (hc _ (by omega)).trans hi.c3, (hc _ (by omega)).trans hi.c4,
      rb_keep hi.b (hc _ (by omega)) (hc _ (by omega)) hf (fun g e => hb' g (hi.own (.inl e)).2.1 (hi.own (.inl e)).2.2) (fun g e => hb' g (hi.own (.inr (.inl e))).2.1 (hi.own (.inr (.inl e))).2.2), hd, (hc _ (by omega)).trans hi.c8, hi.nb, fun h2 => absurd hD h2⟩
  · rcases hb with e | e | e
    · exact .inl (.inl e)
    · exact .inl (.inr (.inl e))
    · right
      have : gg = b := by injection e
      omega
/-- A file's body turned. -/
theorem DB.body (h : DB w D lo RS pl tag S room) {k : Nat} (hk : k ≤ 200) (hD : (S.ino k).kind = 1) {u T : Nat} {vB vT : Value} {b' : AB} (hr : RS2 w w' lo D (1 + k * 9 + 5) RS room u (RF D (pl k).vB (pl k).vT) vB vT b' T) : NxD w w' D lo RS tag ⟨br.upd S.ino k { S.ino k with body := b' }, u⟩ room := by
  have hi := h.ino k hk
  have hnd := hi.nd (by rw [hD]; decide)
  have hc : ∀ j, j ≠ 1 + k * 9 + 5 → j ≠ 1 + k * 9 + 6 → w'.cell? ⟨D, j, none⟩ = w.cell? ⟨D, j, none⟩ := fun j h1 h2 => (hr.kp j h1 h2).1
  have hf : ∀ j, w'.frozen? ⟨D, j, none⟩ = w.frozen? ⟨D, j, none⟩ := fun j => by
    by_cases e1 : j = 1 + k * 9 + 5
    · subst e1; rw [hr.r.f0, h.cf]
    · by_cases e2 : j = 1 + k * 9 + 6
      · subst e2; rw [show 1 + k * 9 + 6 = 1 + k * 9 + 5 + 1 from rfl, hr.r.f1, h.cf]
      · exact (hr.kp j e1 e2).2
  refine h.turn hk (p' := ⟨vB, vT, T, (pl k).o, (pl k).c⟩) hr.o (fun b hb => ?_) (fun j hj => hc j (by omega) (by omega)) hf ?_ (fun b hb => ?_) hr.s
  · rcases hb with (e | e | e) | e
    · exact .inl e
    · exact .inr (.inr (.inl e))
    · exact .inr (.inr (.inr (.inl e)))
    · exact .inr (.inl e)
  · exact ⟨(hc _ (by omega) (by omega)).trans hi.c0, (hc _ (by omega) (by omega)).trans hi.c1, (hc _ (by omega) (by omega)).trans hi.c2, (hc _ (by omega) (by omega)).trans hi.c3, (hc _ (by omega) (by omega)).trans hi.c4, hr.r,
      hi.d.of_cell (hc _ (by omega) (by omega)) (hf _) (fun G e => by rw [hnd.1] at e; cases e), (hc _ (by omega) (by omega)).trans hi.c8, fun h2 => absurd hD h2, hi.nd⟩
  · rcases hb with e | e | e
    · rcases hr.f b (.inr (.inl e)) with (h1 | h1 | h1) | h1
      · exact absurd h1 (fun e1 => hr.r.nB (by rw [e, e1]))
      · exact .inl (.inl h1)
      · exact .inl (.inr (.inl h1))
      · exact .inr h1
    · rcases hr.f b (.inr (.inr e)) with (h1 | h1 | h1) | h1
      · exact absurd h1 (fun e1 => hr.r.nT (by rw [e, e1]))
      · exact .inl (.inl h1)
      · exact .inl (.inr (.inl h1))
      · exact .inr h1
    · exact .inl (.inr (.inr e))
/-- An inode laid whole, without rows. -/
theorem DB.blank (h : DB w D lo RS pl tag S room) {k : Nat} (hk : k ≤ 200) {u : Nat} {F : Nat → Prop} {a0 a1 a2 a3 a4 : Int} {t : ByteArray} (ho : Only F w w') (hF : ∀ b, F b → b = D ∨ b = RS ∨ Own (pl k) b)
    (hc : ∀ j, j < 1 + k * 9 ∨ 1 + k * 9 + 9 ≤ j → w'.cell? ⟨D, j, none⟩ = w.cell? ⟨D, j, none⟩) (hf : ∀ j, w'.frozen? ⟨D, j, none⟩ = w.frozen? ⟨D, j, none⟩) (hs : StoC w' RS room u)
    (c0 : w'.cell? ⟨D, 1 + k * 9, none⟩ = some (.int .i64 a0)) (c1 : w'.cell? ⟨D, 1 + k * 9 + 1, none⟩ = some (.int .i64 a1)) (c2 : w'.cell? ⟨D, 1 + k * 9 + 2, none⟩ = some (.int .i64 a2)) (c3 : w'.cell? ⟨D, 1 + k * 9 + 3, none⟩ = some (.int .i64 a3)) (c4 : w'.cell? ⟨D, 1 + k * 9 + 4, none⟩ = some (.int .i64 a4))
    (c5 : w'.cell? ⟨D, 1 + k * 9 + 5, none⟩ = some (.slice none 0 0)) (c6 : w'.cell? ⟨D, 1 + k * 9 + 6, none⟩ = some (.slice none 0 0)) (c7 : w'.cell? ⟨D, 1 + k * 9 + 7, none⟩ = some (.slice none 0 0)) (c8 : w'.cell? ⟨D, 1 + k * 9 + 8, none⟩ = some (.string t)) :
    NxD w w' D lo RS tag ⟨br.upd S.ino k ⟨a0, a1, a2, a3, a4, abE, [], t⟩, u⟩ room :=
  h.turn hk (p' := pd0) ho hF hc hf (DI.blank c0 c1 c2 c3 c4 c5 c6 c7 c8 (fun j => (hf j).trans (h.cf j))) (fun b hb => absurd hb (own0 b)) hs
def blankL (a0 a1 a2 a3 a4 : Int) (t : ByteArray) : List Value := [.int .i64 a0, .int .i64 a1, .int .i64 a2, .int .i64 a3, .int .i64 a4, .slice none 0 0, .slice none 0 0, .slice none 0 0, .string t]
theorem one9 (a0 a1 a2 a3 a4 : Int) (t : ByteArray) : (#[Value.int .i64 a0, .int .i64 a1, .int .i64 a2, .int .i64 a3, .int .i64 a4, .slice none 0 0, .slice none 0 0, .slice none 0 0, .string t] : Array Value).all (·.oneCell') = true := by
  simp [Value.oneCell']
set_option maxRecDepth 100000 in
theorem store9 (w3 : World) (D o : Nat) (a0 a1 a2 a3 a4 : Int) (t : ByteArray) (ht : w3.there D o 9) :
    (Instr.storeAt 101 (.pointer (some ⟨D, o, none⟩)) (.agg #[.int .i64 a0, .int .i64 a1, .int .i64 a2, .int .i64 a3, .int .i64 a4, .slice none 0 0, .slice none 0 0, .slice none 0 0, .string t])).run Tryz.prog w3 = .ok () (w3.setCells D o (blankL a0 a1 a2 a3 a4 t)) :=
  run_storeAt_mid (P := Tryz.prog) w3 D o 101 _ ht (by kernel_rfl) (one9 a0 a1 a2 a3 a4 t)
theorem only_sets (D : Nat) : ∀ (vs : List Value) (o : Nat) (w : World), Only (fun b => b = D) w (w.setCells D o vs)
  | [], _, w => Only.refl _ w
  | v :: r, o, w => (only_set w D o v).trans (only_sets D r (o + 1) _)
theorem DB.there (h : DB w D lo RS pl tag S room) {k : Nat} (hk : k ≤ 200) : w.there D (1 + k * 9) 9 := fun j hj => by
  have hi := h.ino k hk
  refine ⟨?_, h.cf _⟩
  match j, hj with
  | 0, _ => rw [Nat.add_zero, hi.c0]; rfl
  | 1, _ => rw [hi.c1]; rfl
  | 2, _ => rw [hi.c2]; rfl
  | 3, _ => rw [hi.c3]; rfl
  | 4, _ => rw [hi.c4]; rfl
  | 5, _ => rw [hi.b.c0]; rfl
  | 6, _ => have := hi.b.c1; rw [show 1 + k * 9 + 6 = 1 + k * 9 + 5 + 1 from rfl, this]; rfl
  | 7, _ => rw [hi.d.d0]; rfl
  | 8, _ => rw [hi.c8]; rfl
/-- An inode laid whole behind a turn of its body. -/
theorem DB.layOver (h : DB w D lo RS pl tag S room) {k : Nat} (hk : k ≤ 200) {u : Nat} {F : Nat → Prop} {w3 : World} (ho : Only F w w3) (hF : ∀ b, F b → b = D ∨ b = RS ∨ Own (pl k) b)
    (hc : ∀ j, j < 1 + k * 9 ∨ 1 + k * 9 + 9 ≤ j → w3.cell? ⟨D, j, none⟩ = w.cell? ⟨D, j, none⟩) (hf : ∀ j, w3.frozen? ⟨D, j, none⟩ = w.frozen? ⟨D, j, none⟩) (hs : StoC w3 RS room u) (ht : w3.there D (1 + k * 9) 9) (a0 a1 a2 a3 a4 : Int) (t : ByteArray) :
    NxD w (w3.setCells D (1 + k * 9) (blankL a0 a1 a2 a3 a4 t)) D lo RS tag ⟨br.upd S.ino k ⟨a0, a1, a2, a3, a4, abE, [], t⟩, u⟩ room := by
  have hr := World.rangeAt_setCells_same w3 D (1 + k * 9) (blankL a0 a1 a2 a3 a4 t) ht
  have o2 := only_sets D (blankL a0 a1 a2 a3 a4 t) (1 + k * 9) w3
  refine h.blank hk (F := fun b => F b ∨ b = D) ((ho.mono fun b hb => .inl hb).trans (o2.mono fun b hb => .inr hb)) (fun b hb => ?_) (fun j hj => ?_) (fun j => ?_) (StoC.keep hs (o2.block RS (World.block_lt_of_cell? w3 _ hs.c0) h.loD.2.2))
    (hr 0 _ rfl) (hr 1 _ rfl) (hr 2 _ rfl) (hr 3 _ rfl) (hr 4 _ rfl) (hr 5 _ rfl) (hr 6 _ rfl) (hr 7 _ rfl) (hr 8 _ rfl)
  · rcases hb with hb | hb
    · exact hF b hb
    · exact .inl hb
  · rw [World.cell?_setCells_out D _ _ w3 ⟨D, j, none⟩ (fun _ _ => hj)]; exact hc j hj
  · rw [World.frozen?_setCells]; exact hf j
theorem DB.lay (h : DB w D lo RS pl tag S room) {k : Nat} (hk : k ≤ 200) (a0 a1 a2 a3 a4 : Int) (t : ByteArray) :
    NxD w (w.setCells D (1 + k * 9) (blankL a0 a1 a2 a3 a4 t)) D lo RS tag ⟨br.upd S.ino k ⟨a0, a1, a2, a3, a4, abE, [], t⟩, S.used⟩ room :=
  h.layOver hk (Only.refl (fun _ => False) w) (fun _ h => h.elim) (fun _ _ => rfl) (fun _ => rfl) h.sto (h.there hk) a0 a1 a2 a3 a4 t
theorem DB.layBody (h : DB w D lo RS pl tag S room) {k : Nat} (hk : k ≤ 200) {u T : Nat} {vB vT : Value} {b' : AB} {w3 : World} (hr : RS2 w w3 lo D (1 + k * 9 + 5) RS room u (RF D (pl k).vB (pl k).vT) vB vT b' T) (a0 a1 a2 a3 a4 : Int) (t : ByteArray) :
    w3.there D (1 + k * 9) 9 ∧ NxD w (w3.setCells D (1 + k * 9) (blankL a0 a1 a2 a3 a4 t)) D lo RS tag ⟨br.upd S.ino k ⟨a0, a1, a2, a3, a4, abE, [], t⟩, u⟩ room := by
  have hf : ∀ j, w3.frozen? ⟨D, j, none⟩ = w.frozen? ⟨D, j, none⟩ := fun j => by
    by_cases e1 : j = 1 + k * 9 + 5
    · subst e1; rw [hr.r.f0, h.cf]
    · by_cases e2 : j = 1 + k * 9 + 6
      · subst e2; rw [show 1 + k * 9 + 6 = 1 + k * 9 + 5 + 1 from rfl, hr.r.f1, h.cf]
      · exact (hr.kp j e1 e2).2
  have ht : w3.there D (1 + k * 9) 9 := fun j hj => by
    refine ⟨?_, (hf _).trans (h.cf _)⟩
    by_cases e1 : j = 5
    · subst e1; rw [hr.r.c0]; rfl
    · by_cases e2 : j = 6
      · subst e2; rw [show 1 + k * 9 + 6 = 1 + k * 9 + 5 + 1 from rfl, hr.r.c1]; rfl
      · rw [(hr.kp _ (by omega) (by omega)).1]; exact (h.there hk j hj).1
  refine ⟨ht, h.layOver hk hr.o (fun b hb => ?_) (fun j hj => (hr.kp j (by omega) (by omega)).1) hf hr.s ht a0 a1 a2 a3 a4 t⟩
  rcases hb with (e | e | e) | e
  · exact .inl e
  · exact .inr (.inr (.inl e))
  · exact .inr (.inr (.inr (.inl e)))
  · exact .inr (.inl e)
theorem q_ddel (h : DB w D lo RS pl tag S room) (hG : br.Good S room) {I : Nat} (hI : I ≤ 200) (hk : (S.ino I).kind = 2) (s : ByteArray) :
    Calls Tryz.prog 60 #[dn.Px D (1 + I * 9 + 7), .string s] w (RetD w D lo RS tag (getV s (S.ino I).dir) ⟨br.upd S.ino I { S.ino I with dir := ldel s (S.ino I).dir }, S.used⟩ room) :=
  (dn.rdelx_any D (1 + I * 9 + 7) lo _ _ _ s w (by have := hG.1.dirLen I; omega) (h.ino I hI).d).mono fun _ _ hl => ⟨hl.1, h.laid hI hk hl⟩
theorem q_dset (h : DB w D lo RS pl tag S room) {I : Nat} (hI : I ≤ 200) (hk : (S.ino I).kind = 2) (hs : Sorted (S.ino I).dir) (hl : (S.ino I).dir.length ≤ 4000) (hg : ∀ e ∈ (S.ino I).dir, e.1.size ≤ 9223372036854775807) (s : ByteArray) (v : Int) (hm : s.size ≤ 9223372036854775807) (he : nerr s.data.toList = 0) (hd : dotB s = false) (hv : 1 ≤ v) :
    Calls Tryz.prog 54 #[dn.Px D (1 + I * 9 + 7), .string s, .int .i64 v] w (RetD w D lo RS tag (.int .i64 0) ⟨br.upd S.ino I { S.ino I with dir := lset s v (S.ino I).dir }, S.used⟩ room) :=
  (dn.rsetx_ok D (1 + I * 9 + 7) lo _ _ _ s v w hm hg (h.ino I hI).d hs (by omega) he hd (by omega)).mono fun _ _ hl => ⟨hl.1, h.laid hI hk hl⟩
end
end Go.Proofs.YtlnlehoekchdeaaGreat.cb
end
section
namespace Go.Proofs.YtlnlehoekchdeaaGreat.cb
open Go.RowKit
open Go.Proofs.YtlnlehoekchdeaaGreat.br
open Go.Proofs.YtlnlehoekchdeaaGreat.dn (En lget lset ldel nerr dotB Sorted getV DuX LaidX)
open Go.Proofs.YtlnlehoekchdeaaGreat.bl (AB Only StoC Pq cut cutR wr WR U8 RF)
open Go.Proofs.YtlnlehoekchdeaaGreat.bl.rx (RB RS2 Kp)
set_option linter.unusedVariables false
set_option linter.unusedSimpArgs false

theorem cut_zero (b : AB) : (cut b 0).n = 0 := by
  unfold cut
  rw [if_pos (by omega)]
  unfold AB.n bl.cnt
  simp [bl.cutB]
section
variable {w w' : World} {D lo RS room : Nat} {pl : Nat → Pd} {tag : Nat → Nat} {S : BS}
set_option maxRecDepth 100000 in
set_option maxHeartbeats 1000000 in
theorem q_less (h : DB w D lo RS pl tag S room) {I : Nat} (hok : (S.ino I).body.Ok) (hbn : (S.ino I).body.n ≤ S.used) (hur : S.used ≤ 65536) (i1 : 1 ≤ I) (i2 : I ≤ 200) (dl dh : Int) (b1 : 0 ≤ (S.ino I).links - dl) (b2 : (S.ino I).links ≤ 1000000) (b3 : 0 ≤ (S.ino I).holds - dh) (b4 : (S.ino I).holds ≤ 1000000) (b5 : 0 ≤ dl) (b6 : 0 ≤ dh) :
    Calls Tryz.prog 61 #[Pq D, .int .i64 (I : Int), .int .i64 dl, .int .i64 dh] w (RetD w D lo RS tag (.tuple #[]) (S.less (I : Int) dl dh) room) := by
  have hI0 : (0 : Int) ≤ (I : Int) := by omega
  have hI1 : (I : Int) < 201 := by omega
  have hw1 : IntKind.i64.wrap ((S.ino I).links - dl) = (S.ino I).links - dl := IntWalk.i64_in _ (by omega)
  have hw2 : IntKind.i64.wrap ((S.ino I).holds - dh) = (S.ino I).holds - dh := IntWalk.i64_in _ (by omega)
  -- the links
  have c1 := (h.drew.ino I i2).c1
  have f1 := h.drew.cf (1 + I * 9 + 1)
  obtain ⟨pl1, tag1, h1, s1⟩ := h.drew.links i2 ((S.ino I).links - dl)
  have st1 : Stp w (w.drew.setCell ⟨D, 1 + I * 9 + 1, none⟩ (.int .i64 ((S.ino I).links - dl))) tag tag1 := (Stp.below ((Below.refl _ w).drew)).trans s1
  obtain ⟨w1, e1⟩ : ∃ w1, w.drew.setCell ⟨D, 1 + I * 9 + 1, none⟩ (.int .i64 ((S.ino I).links - dl)) = w1 := ⟨_, rfl⟩
  rw [e1] at h1 st1
  -- the holds
  have c2 := (h1.drew.ino I i2).c2
  have f2 := h1.drew.cf (1 + I * 9 + 2)
  obtain ⟨pl2, tag2, h2, s2⟩ := h1.drew.holds i2 ((S.ino I).holds - dh)
  dsimp only at c2 h2
  rw [upd_same] at c2 h2
  rw [upd_upd] at h2
  have st2 : Stp w (w1.drew.setCell ⟨D, 1 + I * 9 + 2, none⟩ (.int .i64 ((S.ino I).holds - dh))) tag tag2 := (st1.trans (Stp.below ((Below.refl _ w1).drew))).trans s2
  obtain ⟨w2, e2⟩ : ∃ w2, w1.drew.setCell ⟨D, 1 + I * 9 + 2, none⟩ (.int .i64 ((S.ino I).holds - dh)) = w2 := ⟨_, rfl⟩
  rw [e2] at h2 st2
  have d1 := (h2.ino I i2).c1
  have d2 := (h2.ino I i2).c2
  dsimp only at d1 d2
  rw [upd_same] at d1 d2
  dsimp only at d1 d2
  by_cases hz : (S.ino I).links - dl = 0 ∧ (S.ino I).holds - dh = 0
  · -- the body goes
    have hLE := Lib.hid (show S.less (I : Int) dl dh = ⟨br.upd S.ino I Ino.nil, S.used - (S.ino I).body.n⟩ by
      unfold BS.less
      dsimp only
      rw [at_nat, if_pos hz, Int.toNat_natCast])
    rw [hLE.out]
    have hi2 := h2.drew.ino I i2
    dsimp only at hi2
    rw [upd_same] at hi2
    have hc0 := hi2.c0
    have hRF : ¬ RF D (pl2 I).vB (pl2 I).vT RS := by
      rintro (e | e | e)
      · exact h2.loD.2.2 e
      · have := h2.tI I i2 RS (.inl e); rw [h2.tS] at this; omega
      · have := h2.tI I i2 RS (.inr (.inl e)); rw [h2.tS] at this; omega
    have HC := Lib.hid (bl.rx.rcut_any (off := 0) hi2.b hok h2.drew.sto hRF hbn hur h2.drew.loD.2.1)
    have hst := h2.drew.c0
    have hfz : ∀ W, Only (fun b => RF D (pl2 I).vB (pl2 I).vT b ∨ b = RS) w2.drew W → True := fun _ _ => trivial
    have H2 := Lib.hid h2.drew
    have ST2 := Lib.hid (st2.trans (Stp.below ((Below.refl _ w2).drew)))
    have q1 : ((S.ino I).links - dl == 0) = true := by simpa using hz.1
    have q2 : ((S.ino I).holds - dh == 0) = true := by simpa using hz.2
    have HBN := Lib.hid (show S.used + (cut (S.ino I).body 0).n - (S.ino I).body.n = S.used - (S.ino I).body.n from by rw [cut_zero]; rfl)
    obtain ⟨S3, hS3⟩ : ∃ S3, BS.mk (br.upd S.ino I Ino.nil) (S.used - (S.ino I).body.n) = S3 := ⟨_, rfl⟩
    rw [hS3]
    have HS3 := Lib.hid hS3
    clear hS3
    generalize hlk : (S.ino I).links = L at *
    generalize hho : (S.ino I).holds = H at *
    clear hLE hz b1 b2 b3 b4 b5 b6 st2 s1 s2 hfz st1
    go_enter Tryz.func61, Tryz.ntmps61
    go_wp2_with fail
    go_still_tail 13, (by kernel_rfl)
    change wpList _ _ _ _ _ w.drew
    go_wp2_with fail
    go_still_tail 13, (by kernel_rfl)
    change wpList _ _ _ _ _ w1.drew
    go_wp2_with fail
    go_still_tail 10, (by kernel_rfl)
    change wpList _ _ _ _ _ w2.drew
    go_wp2_with fail
    refine HC.out.mono ?_
    rintro e w3 ⟨rfl, vB, vT, T, hr⟩
    obtain ⟨ht, hn⟩ := H2.out.layBody i2 hr 0 0 0 0 0 ⟨#[]⟩
    have HN := Lib.hid hn
    have HT := Lib.hid ht
    clear hr ht hn
    go_wp2_with (refine wpList_store_mid rfl 101 (.tmp 68) (.tmp 65) rfl D (1 + I * 9) #[.int .i64 0, .int .i64 0, .int .i64 0, .int .i64 0, .int .i64 0, .slice none 0 0, .slice none 0 0, .slice none 0 0, .string ⟨#[]⟩] rfl rfl HT.out (by kernel_rfl) (one9 _ _ _ _ _ _) ?_)
    go_end0
    refine ⟨rfl, NxD.trans ST2.out ?_⟩
    have hq := HN.out
    rw [upd_upd, HBN.out] at hq
    rw [← HS3.out]
    exact hq
  · have hLE := Lib.hid (show S.less (I : Int) dl dh = ⟨br.upd S.ino I { S.ino I with links := (S.ino I).links - dl, holds := (S.ino I).holds - dh }, S.used⟩ by
      unfold BS.less
      dsimp only
      rw [at_nat, if_neg hz]
      unfold BS.put
      rw [Int.toNat_natCast])
    rw [hLE.out]
    have HF := Lib.hid (show RetD w D lo RS tag (.tuple #[]) _ room (.returned (.tuple #[])) w2 from ⟨rfl, pl2, tag2, h2, st2⟩)
    dsimp only
    generalize BS.mk (br.upd S.ino I { S.ino I with links := (S.ino I).links - dl, holds := (S.ino I).holds - dh }) S.used = S2 at *
    generalize (S.ino I).links = L at *
    generalize (S.ino I).holds = H at *
    have hz2 : (L - dl == 0) = false ∨ ((L - dl == 0) = true ∧ (H - dh == 0) = false) := by
      by_cases e : L - dl = 0
      · exact .inr ⟨by simpa using e, by simpa using fun h => hz ⟨e, h⟩⟩
      · exact .inl (by simpa using e)
    clear h hok hbn hur h1 h2 s1 s2 st1 st2 hLE hz b1 b2 b3 b4 b5 b6
    rcases hz2 with q1 | ⟨q1, q2⟩
    · go_enter Tryz.func61, Tryz.ntmps61
      go_wp2_with fail
      go_still_tail 13, (by kernel_rfl)
      change wpList _ _ _ _ _ w.drew
      go_wp2_with fail
      go_still_tail 13, (by kernel_rfl)
      change wpList _ _ _ _ _ w1.drew
      go_wp2_with fail
      go_end0
      exact HF.out
    · go_enter Tryz.func61, Tryz.ntmps61
      go_wp2_with fail
      go_still_tail 13, (by kernel_rfl)
      change wpList _ _ _ _ _ w.drew
      go_wp2_with fail
      go_still_tail 13, (by kernel_rfl)
      change wpList _ _ _ _ _ w1.drew
      go_wp2_with fail
      go_end0
      exact HF.out
end
end Go.Proofs.YtlnlehoekchdeaaGreat.cb
end
section
namespace Go.Proofs.YtlnlehoekchdeaaGreat.cb
open Go.RowKit
open Go.Proofs.YtlnlehoekchdeaaGreat.br
open Go.Proofs.YtlnlehoekchdeaaGreat.dn (En lget lset ldel nerr dotB Sorted getV DuX LaidX)
open Go.Proofs.YtlnlehoekchdeaaGreat.bl (AB Only StoC Pq cut cutR wr WR U8 RF)
open Go.Proofs.YtlnlehoekchdeaaGreat.bl.rx (RB RS2 Kp)
set_option linter.unusedVariables false
set_option linter.unusedSimpArgs false

section
variable {w w' : World} {D lo RS room : Nat} {pl : Nat → Pd} {tag : Nat → Nat} {S : BS}
theorem Good_body2 {S : BS} {room : Nat} (h : br.Good S room) (hr : room ≤ 65536) (I : Nat) : (S.ino I).body.Ok ∧ (S.ino I).body.n ≤ S.used ∧ S.used ≤ 65536 := by
  refine ⟨h.1.body I, ?_, by have := h.1.room; omega⟩
  by_cases e : 1 ≤ I ∧ I ≤ 200
  · rw [h.1.used]; exact sumF_le (f := fun k => (S.ino k).body.n) e.1 e.2
  · rw [h.1.out I (by omega)]; show abE.n ≤ _; rw [abE_n]; exact Nat.zero_le _
end
end Go.Proofs.YtlnlehoekchdeaaGreat.cb
end
