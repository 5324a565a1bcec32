/- 'Unlink' and 'Rmdir'. A new inode: 'blank'. -/
import Derived.Test.YtlnlehoekchdeaaGreatZ20
section
namespace Go.Proofs.YtlnlehoekchdeaaGreat.cb
open Go.RowKit
open Go.Proofs.YtlnlehoekchdeaaGreat.qu (KN ins QL)
open Go.Proofs.YtlnlehoekchdeaaGreat.dn (Du En lget lset ldel getV nerr dotB Sorted RetV serr lsetE)
open Go.Proofs.YtlnlehoekchdeaaGreat.bl (AB Bod BodC StoC Only Pq cut cutR wr WR)
open Go.Proofs.YtlnlehoekchdeaaGreat.br
set_option linter.unusedVariables false
set_option linter.unusedSimpArgs false

section
variable {w w' : World} {P lo st qb room T : Nat} {qo : Option Nat} {pl : Nat → Pl} {tag : Nat → Nat} {S : BS} {L : List KN}
theorem CB.nxf (h : CB w P lo st qb qo pl tag S room (freeL S) T) (hb : Below w.heap.size w w') : NxF w w' P lo st qb pl tag S room T := ⟨T, Nat.le_succ T, Nx.of (h.below hb) (Stp.below hb)⟩
/-- What is done behind other looks. -/
theorem NxF.past {w0 : World} {S' : BS} (hb : Below w0.heap.size w0 w) (h : NxF w w' P lo st qb pl tag S' room T) : NxF w0 w' P lo st qb pl tag S' room T := by
  obtain ⟨T', h1, h2⟩ := h
  exact ⟨T', h1, Nx.trans (Stp.below hb) (fun _ _ => rfl) h2⟩
def RetF (w : World) (P lo st qb : Nat) (pl : Nat → Pl) (tag : Nat → Nat) (v : Value) (S' : BS) (room T : Nat) (e : Ending) (w' : World) : Prop := e = .returned v ∧ NxF w w' P lo st qb pl tag S' room T
theorem get_lead {S : BS} {D : Nat} (h1 : S.dirE (D : Int) true = 0) (s : ByteArray) : (lget s (S.ino D).dir = none ∧ S.get (D : Int) s = (0, 2)) ∨ ∃ v, lget s (S.ino D).dir = some v ∧ S.get (D : Int) s = (v, 0) := by
  rw [get_eq (dirE_less h1)]
  cases lget s (S.ino D).dir with
  | none => exact .inl ⟨rfl, rfl⟩
  | some v => exact .inr ⟨v, rfl, rfl⟩
set_option maxRecDepth 100000 in
set_option maxHeartbeats 1000000 in
theorem unlink_any (h : CB w P lo st qb qo pl tag S room (freeL S) T) (hG : br.Good S room) (hr : room ≤ 65536) (hT : T ≤ 900000) (d : Int) (s : ByteArray) :
    Calls Tryz.prog 25 #[Pq P, .int .i64 d, .string s] w (RetF w P lo st qb pl tag (.int .i64 (S.unlink d s).1) (S.unlink d s).2 room T) := by
  have HN := Lib.hid (named_any h hG d s)
  unfold RetW at HN
  unfold RetF
  have HF := Lib.hid (fun w2 hb => h.nxf (w' := w2) hb)
  by_cases h1 : S.dirE d true = 0
  · obtain ⟨D, rfl, d1, d2, hD, hl⟩ := dirE_ok h1
    rcases get_lead h1 s with ⟨g1, g2⟩ | ⟨v, g1, g2⟩
    · have hv := Lib.hid (show S.unlink (D : Int) s = (2, S) by unfold BS.unlink; rw [if_neg (by omega), if_pos (by rw [g2]; decide), g2])
      have hn : namV S pl (D : Int) s = .tuple #[Pq (pl D).nd, .int .i64 0, .int .i64 2] := by unfold namV; rw [if_neg (by omega), g2]; rfl
      rw [hn] at HN
      rw [hv.out]
      generalize (pl D).nd = N at *
      clear h hG g1 g2 hn hv h1
      go_enter Tryz.func25, Tryz.ntmps25
      go_wp2_with fail
      refine HN.out.mono ?_
      rintro e w2 ⟨rfl, hb⟩
      go_wp2_with fail
      go_ret
      exact ⟨rfl, HF.out _ hb⟩
    · have hn : namV S pl (D : Int) s = .tuple #[Pq (pl D).nd, .int .i64 v, .int .i64 0] := by unfold namV; rw [if_neg (by omega), g2]; rfl
      rw [hn] at HN
      obtain ⟨_, _, I, rfl, i1, i2, _, hli, hni⟩ := hG.1.lead g1
      have HC := Lib.hid (fun w2 (hb : Below w.heap.size w w2) => (h.below hb).slot i2 hni)
      have HK := Lib.hid (fun w2 (hb : Below w.heap.size w w2) => ((h.below hb).ino I i2 hni).c0)
      by_cases hk : (S.ino I).kind = 2
      · have hv := Lib.hid (show S.unlink (D : Int) s = (21, S) by unfold BS.unlink; rw [if_neg (by omega), g2, if_neg (by simp), if_pos (by rw [at_nat]; exact hk)])
        rw [hv.out]
        rw [hk] at HK
        generalize (pl D).nd = N at *
        generalize (pl I).nd = M at *
        clear h hG g1 g2 hn hv h1
        go_enter Tryz.func25, Tryz.ntmps25
        go_wp2_with fail
        refine HN.out.mono ?_
        rintro e w2 ⟨rfl, hb⟩
        have c0 := HC.out _ hb
        have c1 := HK.out _ hb
        clear HC HK
        go_wp2_with fail
        go_ret
        exact ⟨rfl, HF.out _ hb⟩
      · have hv := Lib.hid (show S.unlink (D : Int) s = (0, S.drop (D : Int) s (I : Int)) by unfold BS.unlink; rw [if_neg (by omega), g2, if_neg (by simp), if_neg (by rw [at_nat]; exact hk)])
        rw [hv.out]
        have HU := Lib.hid (fun w2 (hb : Below w.heap.size w w2) => unname_any (h.below hb) hG hr hT g1)
        generalize (pl D).nd = N at *
        generalize (pl I).nd = M at *
        generalize (S.ino I).kind = K at *
        have hk2 : (K == 2) = false := by simpa using hk
        clear h hG g1 g2 hn hv h1 HF
        go_enter Tryz.func25, Tryz.ntmps25
        go_wp2_with fail
        refine HN.out.mono ?_
        rintro e w2 ⟨rfl, hb⟩
        have c0 := HC.out _ hb
        have c1 := HK.out _ hb
        have HU2 := Lib.hid (HU.out _ hb)
        have HB := Lib.hid hb
        clear HC HK HU hb
        go_wp2_with fail
        refine HU2.out.mono ?_
        rintro e w3 ⟨rfl, hx⟩
        go_wp2_with fail
        go_ret
        exact ⟨rfl, hx.past HB.out⟩
  · have hv := Lib.hid (show S.unlink d s = (S.dirE d true, S) by unfold BS.unlink; rw [if_pos h1])
    have hn : namV S pl d s = .tuple #[.pointer none, .int .i64 0, .int .i64 (S.dirE d true)] := by unfold namV; rw [if_pos h1]
    rw [hn] at HN
    rw [hv.out]
    generalize S.dirE d true = x at *
    have hx : (x != 0) = true := by simpa using h1
    clear h hG hn hv h1
    go_enter Tryz.func25, Tryz.ntmps25
    go_wp2_with fail
    refine HN.out.mono ?_
    rintro e w2 ⟨rfl, hb⟩
    go_wp2_with fail
    go_ret
    exact ⟨rfl, HF.out _ hb⟩
set_option maxRecDepth 100000 in
set_option maxHeartbeats 1000000 in
theorem rmdir_any (h : CB w P lo st qb qo pl tag S room (freeL S) T) (hG : br.Good S room) (hr : room ≤ 65536) (hT : T ≤ 900000) (d : Int) (s : ByteArray) :
    Calls Tryz.prog 27 #[Pq P, .int .i64 d, .string s] w (RetF w P lo st qb pl tag (.int .i64 (S.rmdir d s).1) (S.rmdir d s).2 room T) := by
  have HN := Lib.hid (named_any h hG d s)
  unfold RetW at HN
  unfold RetF
  have HF := Lib.hid (fun w2 hb => h.nxf (w' := w2) hb)
  by_cases h1 : S.dirE d true = 0
  · obtain ⟨D, rfl, d1, d2, hD, hl⟩ := dirE_ok h1
    rcases get_lead h1 s with ⟨g1, g2⟩ | ⟨v, g1, g2⟩
    · have hv := Lib.hid (show S.rmdir (D : Int) s = (2, S) by unfold BS.rmdir; rw [if_neg (by omega), if_pos (by rw [g2]; decide), g2])
      have hn : namV S pl (D : Int) s = .tuple #[Pq (pl D).nd, .int .i64 0, .int .i64 2] := by unfold namV; rw [if_neg (by omega), g2]; rfl
      rw [hn] at HN
      rw [hv.out]
      generalize (pl D).nd = N at *
      clear h hG g1 g2 hn hv h1
      go_enter Tryz.func27, Tryz.ntmps27
      go_wp2_with fail
      refine HN.out.mono ?_
      rintro e w2 ⟨rfl, hb⟩
      go_wp2_with fail
      go_ret
      exact ⟨rfl, HF.out _ hb⟩
    · have hn : namV S pl (D : Int) s = .tuple #[Pq (pl D).nd, .int .i64 v, .int .i64 0] := by unfold namV; rw [if_neg (by omega), g2]; rfl
      rw [hn] at HN
      obtain ⟨_, _, I, rfl, i1, i2, _, hli, hni⟩ := hG.1.lead g1
      have HC := Lib.hid (fun w2 (hb : Below w.heap.size w w2) => (h.below hb).slot i2 hni)
      have HK := Lib.hid (fun w2 (hb : Below w.heap.size w w2) => ((h.below hb).ino I i2 hni).c0)
      by_cases hk : (S.ino I).kind = 2
      · have HL := Lib.hid (fun w2 (hb : Below w.heap.size w w2) => (h.below hb).len hG hk)
        have H5 := Lib.hid (fun w2 (hb : Below w.heap.size w w2) => ((h.below hb).ino I i2 hni).c5d hk)
        rw [hk] at HK
        by_cases he : (S.ino I).dir = []
        · have hv := Lib.hid (show S.rmdir (D : Int) s = (0, S.drop (D : Int) s (I : Int)) by unfold BS.rmdir; rw [if_neg (by omega), g2, if_neg (by simp), if_neg (by rw [at_nat]; simpa using hk), if_neg (by rw [at_nat]; simpa using he)])
          rw [hv.out]
          have HU := Lib.hid (fun w2 (hb : Below w.heap.size w w2) => unname_any (h.below hb) hG hr hT g1)
          rw [he] at HL
          generalize (pl D).nd = N at *
          generalize (pl I).nd = M at *
          generalize (pl I).di = C at *
          clear h hG g1 g2 hn hv h1 HF
          go_enter Tryz.func27, Tryz.ntmps27
          go_wp2_with fail
          refine HN.out.mono ?_
          rintro e w2 ⟨rfl, hb⟩
          have c0 := HC.out _ hb
          have c1 := HK.out _ hb
          have c5 := H5.out _ hb
          have HL2 := Lib.hid (HL.out _ hb)
          have HU2 := Lib.hid (HU.out _ hb)
          have HB := Lib.hid hb
          clear HC HK HU hb H5 HL
          go_wp2_with fail
          refine HL2.out.mono ?_
          rintro e w3 ⟨rfl, rfl⟩
          go_wp2_with fail
          refine HU2.out.mono ?_
          rintro e w3 ⟨rfl, hx⟩
          go_wp2_with fail
          go_ret
          exact ⟨rfl, hx.past HB.out⟩
        · have hv := Lib.hid (show S.rmdir (D : Int) s = (39, S) by unfold BS.rmdir; rw [if_neg (by omega), g2, if_neg (by simp), if_neg (by rw [at_nat]; simpa using hk), if_pos (by rw [at_nat]; exact he)])
          rw [hv.out]
          have hlen : 0 < (S.ino I).dir.length := List.length_pos_iff.2 he
          generalize (pl D).nd = N at *
          generalize (pl I).nd = M at *
          generalize (pl I).di = C at *
          generalize (S.ino I).dir.length = K at *
          clear h hG g1 g2 hn hv h1
          go_enter Tryz.func27, Tryz.ntmps27
          go_wp2_with fail
          refine HN.out.mono ?_
          rintro e w2 ⟨rfl, hb⟩
          have c0 := HC.out _ hb
          have c1 := HK.out _ hb
          have c5 := H5.out _ hb
          have HL2 := Lib.hid (HL.out _ hb)
          clear HC HK H5 HL
          go_wp2_with fail
          refine HL2.out.mono ?_
          rintro e w3 ⟨rfl, rfl⟩
          go_wp2_with fail
          go_ret
          exact ⟨rfl, HF.out _ hb⟩
      · have hv := Lib.hid (show S.rmdir (D : Int) s = (20, S) by unfold BS.rmdir; rw [if_neg (by omega), g2, if_neg (by simp), if_pos (by rw [at_nat]; exact hk)])
        rw [hv.out]
        generalize (pl D).nd = N at *
        generalize (pl I).nd = M at *
        generalize (S.ino I).kind = K at *
        have hk2 : (K != 2) = true := by simpa using hk
        clear h hG g1 g2 hn hv h1
        go_enter Tryz.func27, Tryz.ntmps27
        go_wp2_with fail
        refine HN.out.mono ?_
        rintro e w2 ⟨rfl, hb⟩
        have c0 := HC.out _ hb
        have c1 := HK.out _ hb
        clear HC HK
        go_wp2_with fail
        go_ret
        exact ⟨rfl, HF.out _ hb⟩
  · have hv := Lib.hid (show S.rmdir d s = (S.dirE d true, S) by unfold BS.rmdir; rw [if_pos h1])
    have hn : namV S pl d s = .tuple #[.pointer none, .int .i64 0, .int .i64 (S.dirE d true)] := by unfold namV; rw [if_pos h1]
    rw [hn] at HN
    rw [hv.out]
    generalize S.dirE d true = x at *
    have hx : (x != 0) = true := by simpa using h1
    clear h hG hn hv h1
    go_enter Tryz.func27, Tryz.ntmps27
    go_wp2_with fail
    refine HN.out.mono ?_
    rintro e w2 ⟨rfl, hb⟩
    go_wp2_with fail
    go_ret
    exact ⟨rfl, HF.out _ hb⟩
end
end Go.Proofs.YtlnlehoekchdeaaGreat.cb
end
section
namespace Go.Proofs.YtlnlehoekchdeaaGreat.cb
open Go.RowKit
open Go.Proofs.YtlnlehoekchdeaaGreat.qu (KN ins QL)
open Go.Proofs.YtlnlehoekchdeaaGreat.dn (Du En lget lset ldel getV nerr dotB Sorted RetV serr lsetE)
open Go.Proofs.YtlnlehoekchdeaaGreat.bl (AB Bod BodC StoC Only Pq cut cutR wr WR)
open Go.Proofs.YtlnlehoekchdeaaGreat.br
set_option linter.unusedVariables false
set_option linter.unusedSimpArgs false

def newI (k par : Int) (t : ByteArray) : Ino := ⟨k, 1, 0, 0, if k = 2 then par else 0, abE, [], t⟩
def BlankE (w : World) (st lo : Nat) (x : Ino) (e : Ending) (w' : World) : Prop :=
  ∃ p : Pl, e = .returned (Pq p.nd) ∧ Below w.heap.size w w' ∧ InoC w' st lo p x ∧ w.heap.size ≤ p.nd ∧ (x.kind = 1 → w.heap.size ≤ p.bo ∧ w.heap.size ≤ p.bm ∧ p.bo ≠ p.nd ∧ p.bm ≠ p.nd ∧ p.bo ≠ p.bm) ∧ (x.kind = 2 → w.heap.size ≤ p.di ∧ p.di ≠ p.nd ∧ p.dr = none)
/-- A body without chunks. -/
theorem newBody (st : Nat) (w : World) : Calls Tryz.prog 81 #[Pq st] w (fun e w' => ∃ B M, e = .returned (Pq B) ∧ Bod w' st B M abE ∧ Below w.heap.size w w' ∧ w.heap.size ≤ B ∧ w.heap.size ≤ M ∧ B ≠ M) := by
  refine (bl.body_any st w).mono ?_
  rintro e w' ⟨rfl, rfl⟩
  have hb1 := bl.below_one w (.map #[] 0)
  have hb2 := bl.below_one (w.alloc (.map #[] 0)) (.cells #[Pq st, .int .i64 0, .map (some w.heap.size)] 160)
  have hs1 : (w.alloc (.map #[] 0)).heap.size = w.heap.size + 1 := by simp
  refine ⟨w.heap.size + 1, w.heap.size, rfl, bl.Bod.of (N := 0) ⟨?_, ?_, ?_, ?_⟩ ((bl.MapAt.made w).of_block (hb2.block _ (by simp))) ⟨Nat.zero_le _, (fun _ h => nomatch h), fun _ _ => rfl⟩, dn.below_step hb1 hb2, by omega, by omega, by omega⟩
  all_goals rw [← hs1]
  all_goals simp
  rfl
abbrev box8 (k : Int) (t : ByteArray) : Obj := .cells #[.int .i64 k, .int .i64 1, .int .i64 0, .int .i64 0, .pointer none, .pointer none, .int .i64 0, .string t] 71
theorem box8_cells (w : World) (k : Int) (t : ByteArray) : ((w.alloc (box8 k t)).cell? ⟨w.heap.size, 0, none⟩ = some (.int .i64 k) ∧ (w.alloc (box8 k t)).cell? ⟨w.heap.size, 1, none⟩ = some (.int .i64 1) ∧ (w.alloc (box8 k t)).cell? ⟨w.heap.size, 2, none⟩ = some (.int .i64 0) ∧ (w.alloc (box8 k t)).cell? ⟨w.heap.size, 3, none⟩ = some (.int .i64 0) ∧
    (w.alloc (box8 k t)).cell? ⟨w.heap.size, 4, none⟩ = some (.pointer none) ∧ (w.alloc (box8 k t)).cell? ⟨w.heap.size, 5, none⟩ = some (.pointer none) ∧ (w.alloc (box8 k t)).cell? ⟨w.heap.size, 6, none⟩ = some (.int .i64 0) ∧ (w.alloc (box8 k t)).cell? ⟨w.heap.size, 7, none⟩ = some (.string t)) ∧ ∀ j, (w.alloc (box8 k t)).frozen? ⟨w.heap.size, j, none⟩ = false := by
  simp
set_option maxRecDepth 100000 in
set_option maxHeartbeats 1000000 in
theorem blank_any (P st lo : Nat) (w : World) (hP : w.cell? ⟨P, 0, none⟩ = some (Pq st)) (hPl : P < w.heap.size) (hlo : lo ≤ w.heap.size) (k par : Int) (t : ByteArray) : Calls Tryz.prog 47 #[Pq P, .int .i64 k, .int .i64 par, .string t] w (BlankE w st lo (newI k par t)) := by
  have h8 := box8_cells w k t
  have HB := Lib.hid (dn.below_alloc w (box8 k t))
  have hz : (w.alloc (box8 k t)).heap.size = w.heap.size + 1 := World.size_alloc _ _
  by_cases h1 : k = 1
  · subst h1
    have hp := (HB.out.cell (p := ⟨P, 0, none⟩) hPl).trans hP
    have HC := Lib.hid (newBody st (w.alloc (box8 1 t)))
    have HE := Lib.hid (show ∀ w2 B M, Bod w2 st B M abE → Below (w.alloc (box8 1 t)).heap.size (w.alloc (box8 1 t)) w2 → (w.alloc (box8 1 t)).heap.size ≤ B → (w.alloc (box8 1 t)).heap.size ≤ M → B ≠ M →
        w2.cell? ⟨w.heap.size, 4, none⟩ = some (.pointer none) ∧ w2.frozen? ⟨w.heap.size, 4, none⟩ = false ∧ BlankE w st lo (newI 1 par t) (.returned (Pq w.heap.size)) (w2.setCell ⟨w.heap.size, 4, none⟩ (Pq B)) from fun w2 B M hb hw hB hM hBM => by
      rw [hz] at hw hB hM
      have c : ∀ j, w2.cell? ⟨w.heap.size, j, none⟩ = (w.alloc (box8 1 t)).cell? ⟨w.heap.size, j, none⟩ := fun j => hw.cell (p := ⟨w.heap.size, j, none⟩) (by show w.heap.size < _; omega)
      have f : ∀ j, w2.frozen? ⟨w.heap.size, j, none⟩ = false := fun j => (hw.frozen (p := ⟨w.heap.size, j, none⟩) (by show w.heap.size < _; omega)).trans (h8.2 j)
      have eo : ∀ i, i ≠ 4 → (w2.setCell ⟨w.heap.size, 4, none⟩ (Pq B)).cell? ⟨w.heap.size, i, none⟩ = (w.alloc (box8 1 t)).cell? ⟨w.heap.size, i, none⟩ := fun i hi => (World.cell?_setCell_other _ _ _ _ (fun e => hi (by injection e with _ e _; exact e.symm))).trans (c i)
      refine ⟨(c 4).trans h8.1.2.2.2.2.1, f 4, ⟨w.heap.size, B, M, 0, none, 0⟩, rfl, (HB.out.trans (hw.mono (Nat.le_succ _))).setCell (Nat.le_refl _) _, ?_, Nat.le_refl _, fun _ => ⟨by show w.heap.size ≤ B; omega, by show w.heap.size ≤ M; omega, by show B ≠ w.heap.size; omega, by show M ≠ w.heap.size; omega, hBM⟩, fun e => by cases e⟩
      refine ⟨(eo 0 (by omega)).trans h8.1.1, (eo 1 (by omega)).trans h8.1.2.1, (eo 2 (by omega)).trans h8.1.2.2.1, (eo 3 (by omega)).trans h8.1.2.2.2.1, World.cell?_setCell_same' _ _ _ (by rw [c 4, h8.1.2.2.2.2.1]; rfl), (eo 5 (by omega)).trans h8.1.2.2.2.2.2.1, (eo 6 (by omega)).trans h8.1.2.2.2.2.2.2.1, (eo 7 (by omega)).trans h8.1.2.2.2.2.2.2.2, fun j => by rw [World.frozen?_setCell]; exact f j, fun _ => ?_, fun e => by cases e⟩
      exact hb.keep (Below.heap_setCell _ _ _ _ (by show B ≠ w.heap.size; omega)) (Below.heap_setCell _ _ _ _ (by show M ≠ w.heap.size; omega)))
    generalize newI 1 par t = x at *
    clear h8 hP hPl hlo
    go_enter Tryz.func47, Tryz.ntmps47
    go_wp2_with fail
    refine HC.out.mono ?_
    rintro e w2 ⟨B, M, rfl, a1, a2, a3, a4, a5⟩
    obtain ⟨q1, q2, q3⟩ := HE.out w2 B M a1 a2 a3 a4 a5
    clear a1 a2 a3 a4 a5 hp
    go_wp2_with fail
    go_ret
    exact q3
  · by_cases h2 : k = 2
    · subst h2
      have HC := Lib.hid (dn.new_any (w.alloc (box8 2 t)) lo (by rw [hz]; omega))
      have HE := Lib.hid (show ∀ w2, Du w2 (w.alloc (box8 2 t)).heap.size lo none 0 [] → Below (w.alloc (box8 2 t)).heap.size (w.alloc (box8 2 t)) w2 →
          w2.cell? ⟨w.heap.size, 5, none⟩ = some (.pointer none) ∧ w2.cell? ⟨w.heap.size, 6, none⟩ = some (.int .i64 0) ∧ w2.frozen? ⟨w.heap.size, 5, none⟩ = false ∧ w2.frozen? ⟨w.heap.size, 6, none⟩ = false ∧
          BlankE w st lo (newI 2 par t) (.returned (Pq w.heap.size)) ((w2.setCell ⟨w.heap.size, 5, none⟩ (Pq (w.alloc (box8 2 t)).heap.size)).setCell ⟨w.heap.size, 6, none⟩ (.int .i64 par)) from fun w2 hb hw => by
        rw [hz] at hw hb ⊢
        have c : ∀ j, w2.cell? ⟨w.heap.size, j, none⟩ = (w.alloc (box8 2 t)).cell? ⟨w.heap.size, j, none⟩ := fun j => hw.cell (p := ⟨w.heap.size, j, none⟩) (by show w.heap.size < _; omega)
        have f : ∀ j, w2.frozen? ⟨w.heap.size, j, none⟩ = false := fun j => (hw.frozen (p := ⟨w.heap.size, j, none⟩) (by show w.heap.size < _; omega)).trans (h8.2 j)
        have e1 : ∀ i, i ≠ 5 → (w2.setCell ⟨w.heap.size, 5, none⟩ (Pq (w.heap.size + 1))).cell? ⟨w.heap.size, i, none⟩ = (w.alloc (box8 2 t)).cell? ⟨w.heap.size, i, none⟩ := fun i hi => (World.cell?_setCell_other _ _ _ _ (fun e => hi (by injection e with _ e _; exact e.symm))).trans (c i)
        have e5 : (w2.setCell ⟨w.heap.size, 5, none⟩ (Pq (w.heap.size + 1))).cell? ⟨w.heap.size, 5, none⟩ = some (Pq (w.heap.size + 1)) := World.cell?_setCell_same' _ _ _ (by rw [c 5, h8.1.2.2.2.2.2.1]; rfl)
        have e6 := (e1 6 (by omega)).trans h8.1.2.2.2.2.2.2.1
        generalize hw3 : w2.setCell ⟨w.heap.size, 5, none⟩ (Pq (w.heap.size + 1)) = w3 at *
        have eo : ∀ i, i ≠ 6 → (w3.setCell ⟨w.heap.size, 6, none⟩ (.int .i64 par)).cell? ⟨w.heap.size, i, none⟩ = w3.cell? ⟨w.heap.size, i, none⟩ := fun i hi => World.cell?_setCell_other _ _ _ _ (fun e => hi (by injection e with _ e _; exact e.symm))
        have hb3 : Below w.heap.size w w3 := by rw [← hw3]; exact (HB.out.trans (hw.mono (Nat.le_succ _))).setCell (Nat.le_refl _) _
        refine ⟨(c 5).trans h8.1.2.2.2.2.2.1, (c 6).trans h8.1.2.2.2.2.2.2.1, f 5, f 6, ⟨w.heap.size, 0, 0, w.heap.size + 1, none, 0⟩, rfl, hb3.setCell (Nat.le_refl _) _, ?_, Nat.le_refl _, fun e => (by cases e), fun _ => ⟨by show w.heap.size ≤ w.heap.size + 1; omega, by show w.heap.size + 1 ≠ w.heap.size; omega, rfl⟩⟩
        refine ⟨(eo 0 (by omega)).trans ((e1 0 (by omega)).trans h8.1.1), (eo 1 (by omega)).trans ((e1 1 (by omega)).trans h8.1.2.1), (eo 2 (by omega)).trans ((e1 2 (by omega)).trans h8.1.2.2.1), (eo 3 (by omega)).trans ((e1 3 (by omega)).trans h8.1.2.2.2.1), (eo 4 (by omega)).trans ((e1 4 (by omega)).trans h8.1.2.2.2.2.1), (eo 5 (by omega)).trans e5,
          World.cell?_setCell_same' _ _ _ (by rw [e6]; rfl), (eo 7 (by omega)).trans ((e1 7 (by omega)).trans h8.1.2.2.2.2.2.2.2), fun j => by rw [World.frozen?_setCell, ← hw3, World.frozen?_setCell]; exact f j, fun e => (by cases e), fun _ => ?_⟩
        exact hb.of_blocks ((Below.heap_setCell _ _ _ _ (by show w.heap.size + 1 ≠ w.heap.size; omega)).trans (by rw [← hw3]; exact Below.heap_setCell _ _ _ _ (by show w.heap.size + 1 ≠ w.heap.size; omega))) (fun G e => by cases e))
      generalize newI 2 par t = x at *
      clear h8 hP hPl hlo
      go_enter Tryz.func47, Tryz.ntmps47
      go_wp2_with fail
      refine HC.out.mono ?_
      rintro e w2 ⟨rfl, a1, a2⟩
      obtain ⟨q1, q2, q3, q4, q5⟩ := HE.out w2 a1 a2
      clear a1 a2
      go_wp2_with fail
      go_ret
      rw [hz] at q5
      exact q5
    · have HE := Lib.hid (show BlankE w st lo (newI k par t) (.returned (Pq w.heap.size)) (w.alloc (box8 k t)) from by
        have hx : newI k par t = ⟨k, 1, 0, 0, 0, abE, [], t⟩ := by unfold newI; rw [if_neg h2]
        rw [hx]
        refine ⟨⟨w.heap.size, 0, 0, 0, none, 0⟩, rfl, HB.out, ⟨h8.1.1, h8.1.2.1, h8.1.2.2.1, h8.1.2.2.2.1, ?_, ?_, h8.1.2.2.2.2.2.2.1, h8.1.2.2.2.2.2.2.2, h8.2, fun e => absurd e h1, fun e => absurd e h2⟩, Nat.le_refl _, fun e => absurd e h1, fun e => absurd e h2⟩
        · rw [h8.1.2.2.2.2.1]; unfold bpV; rw [if_neg h1]
        · rw [h8.1.2.2.2.2.2.1]; unfold dpV; rw [if_neg h2])
      generalize newI k par t = x at *
      have q1 : (k == 1) = false := by simpa using h1
      have q2 : (k == 2) = false := by simpa using h2
      clear h8 hP hPl hlo h1 h2
      go_enter Tryz.func47, Tryz.ntmps47
      go_wp2_with fail
      go_ret
      exact HE.out
end Go.Proofs.YtlnlehoekchdeaaGreat.cb
end
