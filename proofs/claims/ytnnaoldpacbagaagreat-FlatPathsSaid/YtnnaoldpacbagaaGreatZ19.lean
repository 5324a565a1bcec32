/- 'Rename'. -/
import Derived.Test.YtnnaoldpacbagaaGreatZ18
section
namespace Go.Proofs.YtnnaoldpacbagaaGreat.cb
open Go.RowKit
open Go.Proofs.YtnnaoldpacbagaaGreat.qu (KN ins QL)
open Go.Proofs.YtnnaoldpacbagaaGreat.dn (Du En lget lset ldel getV nerr dotB Sorted RetV serr lsetE)
open Go.Proofs.YtnnaoldpacbagaaGreat.bl (AB Bod BodC StoC Only Pq cut cutR wr WR)
open Go.Proofs.YtnnaoldpacbagaaGreat.br
set_option linter.unusedVariables false
set_option linter.unusedSimpArgs false

section
variable {w w' : World} {P lo st qb room T : Nat} {qo : Option Nat} {pl : Nat → Pl} {tag : Nat → Nat} {S : BS} {L : List KN}
/-- What is done from the name's going on. -/
def TailE (w : World) (P lo st qb : Nat) (pl : Nat → Pl) (tag : Nat → Nat) (S1 : BS) (room T0 D t I : Nat) (s u : ByteArray) (k par : Int) (w1 : World) : Prop :=
  ∃ C, w1.cell? ⟨(pl D).nd, 5, none⟩ = some (Pq C) ∧ Calls Tryz.prog 110 #[Pq C, .string s] w1 (fun e w2 => ∃ v, e = .returned v ∧ ∃ C2, w2.cell? ⟨(pl t).nd, 5, none⟩ = some (Pq C2) ∧ Calls Tryz.prog 81 #[Pq C2, .string u, .int .i64 (I : Int)] w2 (fun e w3 => e = .returned (.int .i64 0) ∧
      w3.cell? ⟨(pl I).nd, 0, none⟩ = some (.int .i64 k) ∧ w3.cell? ⟨(pl I).nd, 6, none⟩ = some (.int .i64 par) ∧ w3.frozen? ⟨(pl I).nd, 6, none⟩ = false ∧
      (k ≠ 2 → RetG w P lo st qb tag (.int .i64 0) (S1.move (D : Int) s (t : Int) u (I : Int)) room T0 (.returned (.int .i64 0)) w3) ∧
      (k = 2 → RetG w P lo st qb tag (.int .i64 0) (S1.move (D : Int) s (t : Int) u (I : Int)) room T0 (.returned (.int .i64 0)) (w3.setCell ⟨(pl I).nd, 6, none⟩ (.int .i64 (t : Int))))))
theorem tail_any {w1 : World} {qo1 : Option Nat} {pl1 : Nat → Pl} {tag1 : Nat → Nat} {D t I T0 : Nat} {s u : ByteArray} (hG : br.Good S room) (hT : T ≤ T0 + 1) (hD : (S.ino D).kind = 2) (ht : (S.ino t).kind = 2) (hn : (S.ino I).kind ≠ 0) (h1 : I ≠ D) (h2 : I ≠ t) (hu : nerr u.data.toList = 0 ∧ dotB u = false) (hm : u.size ≤ 9223372036854775807)
    (h : CB w1 P lo st qb qo1 pl1 tag1 S room (freeL S) T) (hs : Stp w w1 tag tag1) (hp : ∀ j, (S.ino j).kind ≠ 0 → (pl1 j).nd = (pl j).nd) : TailE w P lo st qb pl tag S room T0 D t I s u (S.ino I).kind (S.ino I).parent w1 := by
  have dn' := hG.1.num (k := D) (by rw [hD]; decide)
  have c5 := (h.ino D dn'.2 (by rw [hD]; decide)).c5d hD
  rw [hp D (by rw [hD]; decide)] at c5
  refine ⟨_, c5, (h.ddel dn'.2 hD (hG.1.sorted D) (hG.1.dirLen D) s).mono ?_⟩
  rintro e w2 ⟨rfl, qo2, pl2, tag2, k1, k2, k3⟩
  change CB w2 P lo st qb qo2 pl2 tag2 (delD S D s) room (freeL S) T at k1
  refine ⟨_, rfl, move_set (w := w) (tag := tag) (pl := pl) hG hT ht hn h1 h2 hu hm k1 (hs.trans k2) fun j hj => (k3 j hj).trans (hp j ?_)⟩
  rw [← delD_kind S D s j]; exact hj
/-- What was called so is gone. -/
theorem drop_facts {D t I J : Nat} {s u : ByteArray} (hG : br.Good S room) (hg : lget s (S.ino D).dir = some (I : Int)) (hu : lget u (S.ino t).dir = some (J : Int)) (hJI : J ≠ I) (h2 : I ≠ t) (hd : (S.ino J).kind = 2 → (S.ino J).dir = []) :
    br.Good (S.drop (t : Int) u (J : Int)) room ∧ ((S.drop (t : Int) u (J : Int)).ino D).kind = 2 ∧ ((S.drop (t : Int) u (J : Int)).ino t).kind = 2 ∧ (S.drop (t : Int) u (J : Int)).ino I = S.ino I := by
  obtain ⟨g, J', hJ', hne, d⟩ := hG.drop hu (by rw [at_nat]; exact hd)
  obtain rfl : J = J' := by omega
  have kD := (hG.1.lead hg).1
  have kt := (hG.1.lead hu).1
  have hJD : J ≠ D := fun e => by
    subst e
    rw [hd kD] at hg; cases hg
  refine ⟨g, ?_, ?_, d.oth I h2 (fun e => hJI e.symm)⟩
  · by_cases e : D = t
    · subst e; rw [d.dir]; exact kD
    · rw [d.oth D e (fun e => hJD e.symm)]; exact kD
  · rw [d.dir]; exact kt
theorem rename_pre {D t I : Nat} {s u : ByteArray} (h1 : S.dirE (D : Int) true = 0) (g : S.get (D : Int) s = ((I : Int), 0)) (h2 : S.dirE (t : Int) true = 0) (h3 : nameE u = 0) (hb : (S.ino I).kind = 2 → S.below (t : Int) (I : Int) 300 = false) :
    S.rename (D : Int) s (t : Int) u = match lget u (S.ino t).dir with
      | none => (0, S.move (D : Int) s (t : Int) u (I : Int))
      | some old => if old = (I : Int) then (0, S) else if (S.at old).kind = 2 ∧ (S.ino I).kind ≠ 2 then (21, S) else if (S.at old).kind ≠ 2 ∧ (S.ino I).kind = 2 then (20, S) else if (S.at old).kind = 2 ∧ (S.at old).dir ≠ [] then (39, S) else (0, (S.drop (t : Int) u old).move (D : Int) s (t : Int) u (I : Int)) := by
  unfold BS.rename
  rw [if_neg (by omega), g, if_neg (by simp), if_neg (by omega), if_neg (by omega)]
  dsimp only
  rw [at_nat, if_neg (fun e => by rw [hb e.1] at e; exact absurd e.2 (by decide)), at_nat]
  rfl
theorem rename_repl {D t I J : Nat} {s u : ByteArray} (h1 : S.dirE (D : Int) true = 0) (g : S.get (D : Int) s = ((I : Int), 0)) (h2 : S.dirE (t : Int) true = 0) (h3 : nameE u = 0) (hb : (S.ino I).kind = 2 → S.below (t : Int) (I : Int) 300 = false) (hu : lget u (S.ino t).dir = some (J : Int)) (hJI : J ≠ I) :
    S.rename (D : Int) s (t : Int) u = if replE S I J = 0 then (0, (S.drop (t : Int) u (J : Int)).move (D : Int) s (t : Int) u (I : Int)) else (replE S I J, S) := by
  rw [rename_pre h1 g h2 h3 hb, hu]
  dsimp only
  rw [if_neg (by omega), at_nat]
  unfold replE
  split
  · rfl
  · split
    · rfl
    · split <;> rfl
theorem repl_dir {I J : Nat} (h : replE S I J = 0) : (S.ino J).kind = 2 → (S.ino J).dir = [] := by
  intro hk
  unfold replE at h
  split at h
  · cases h
  · split at h
    · cases h
    · split at h
      · cases h
      · rename_i h3
        by_cases e : (S.ino J).dir = []
        · exact e
        · exact absurd ⟨hk, e⟩ h3
set_option maxRecDepth 100000 in
set_option maxHeartbeats 1000000 in
theorem rename_newD (h : CB w P lo st qb qo pl tag S room (freeL S) T) (hG : br.Good S room) (hr : room ≤ 65536) (hT : T ≤ 900000) {D t I : Nat} {s u : ByteArray} (hm : u.size ≤ 9223372036854775807) (h1 : S.dirE (D : Int) true = 0) (hg : lget s (S.ino D).dir = some (I : Int)) (gg : S.get (D : Int) s = ((I : Int), 0)) (h2 : S.dirE (t : Int) true = 0) (h3 : nameE u = 0) (hk : (S.ino I).kind = 2) (hb : S.below (t : Int) (I : Int) 300 = false) (hu : lget u (S.ino t).dir = none) : Calls Tryz.prog 48 #[Pq P, .int .i64 (D : Int), .string s, .int .i64 (t : Int), .string u] w (RetG w P lo st qb tag (.int .i64 (S.rename (D : Int) s (t : Int) u).1) (S.rename (D : Int) s (t : Int) u).2 room T) := by
  obtain ⟨D', hD', d1, d2, hDk, _⟩ := dirE_ok h1
  obtain rfl : D = D' := by omega
  obtain ⟨t', ht', t1, t2, htk, htl⟩ := dirE_ok h2
  obtain rfl : t = t' := by omega
  obtain ⟨_, _, I', hI', i1, i2, iroot, hli, hni⟩ := hG.1.lead hg
  obtain rfl : I = I' := by omega
  have hID : I ≠ D := fun e => hG.1.own hG.2 (D := D) (s := s) (by rw [hg, e])
  have HN := Lib.hid (named_any h hG (D : Int) s)
  unfold RetW at HN
  have hn : namV S pl (D : Int) s = .tuple #[Pq (pl D).nd, .int .i64 (I : Int), .int .i64 0] := by unfold namV; rw [if_neg (by omega), gg]; rfl
  rw [hn] at HN
  have HC := Lib.hid (fun w2 (hb : Below w.heap.size w w2) => changed_any (h.below hb) hG.z0 (t : Int))
  rw [listV_ok h2] at HC
  have HNN := Lib.hid (fun w2 => newName_any u w2 hm)
  unfold RetI at HNN
  rw [h3] at HNN
  have HSI := Lib.hid (fun w2 (hb : Below w.heap.size w w2) => (h.below hb).slot i2 hni)
  have HKI := Lib.hid (fun w2 (hb : Below w.heap.size w w2) => ((h.below hb).ino I i2 hni).c0)
  have HT5 := Lib.hid (fun w2 (hb : Below w.heap.size w w2) => ((h.below hb).ino t t2 (by rw [htk]; decide)).c5d htk)
  have HGT := Lib.hid (fun w2 (hb : Below w.heap.size w w2) => (h.below hb).get hG htk u)
  have HF := Lib.hid (fun w2 v hb => RetG.same (w' := w2) h v hb)
  have hnu := nameE_ok h3
  have hIt : I ≠ t := fun e => by subst e; rw [below_self] at hb; cases hb
  have HWI := Lib.hid (fun w2 (hb : Below w.heap.size w w2) => within_any (h.below hb) hG iroot htk (htl rfl))
  rw [hb] at HWI
  rw [hk] at HKI
  have hv := Lib.hid (show S.rename (D : Int) s (t : Int) u = (0, S.move (D : Int) s (t : Int) u (I : Int)) by rw [rename_pre h1 gg h2 h3 (fun _ => hb), hu])
  rw [hv.out]
  have hgv : getV u (S.ino t).dir = .tuple #[.int .i64 0, .int .i64 2] := by unfold getV; rw [hu]
  rw [hgv] at HGT
  have HTL := Lib.hid (fun w2 (hb : Below w.heap.size w w2) => tail_any (w := w) (T0 := T) (s := s) (u := u) hG (Nat.le_succ T) hDk htk hni hID hIt hnu hm (h.below hb) (Stp.below hb) (fun _ _ => rfl))
  unfold TailE at HTL
  rw [hk] at HTL
  generalize (pl D).nd = N at *
  generalize (pl I).nd = M at *
  generalize (pl t).nd = U at *
  generalize (pl t).di = E at *
  clear h hG hr hT hn hgv hv hg gg h1 h2 h3 HF hu hk hb
  go_enter Tryz.func48, Tryz.ntmps48
  go_wp2_with fail
  refine HN.out.mono ?_
  rintro e w2 ⟨rfl, hb⟩
  have HC2 := Lib.hid (HC.out _ hb)
  go_wp2_with fail
  refine HC2.out.mono ?_
  rintro e w3 ⟨rfl, rfl⟩
  go_wp2_with fail
  refine (HNN.out _).mono ?_
  rintro e w4 ⟨rfl, hb4⟩
  have hB4 := dn.below_step hb hb4
  have HB4 := Lib.hid hB4
  have cs := HSI.out w4 hB4
  have c0 := HKI.out w4 hB4
  have ct := HT5.out w4 hB4
  clear hb hb4 HN HC HC2 HNN hB4
  go_wp2_with fail
  refine (HWI.out w4 HB4.out).mono ?_
  rintro e w4 ⟨rfl, rfl⟩
  clear HWI
  have HG2 := Lib.hid (HGT.out w4 HB4.out)
  clear HGT
  go_wp2_with fail
  refine HG2.out.mono ?_
  rintro e w6 ⟨rfl, hb6⟩
  have hB6 := dn.below_step HB4.out hb6
  have HB6 := Lib.hid hB6
  clear HG2 cs c0 ct HB4 hb6
  have cs := HSI.out w6 hB6
  have c0 := HKI.out w6 hB6
  obtain ⟨C, c5, hq⟩ := HTL.out w6 hB6
  have HQ := Lib.hid hq
  clear hq
  go_wp2_with fail
  refine HQ.out.mono ?_
  rintro e w7 ⟨v7, rfl, C2, c52, hq2⟩
  have HQ2 := Lib.hid hq2
  clear hq2 HQ c5
  go_wp2_with fail
  refine HQ2.out.mono ?_
  rintro e w8 ⟨rfl, a0, a6, f6, r1, r2⟩
  have HR1 := Lib.hid r1
  have HR2 := Lib.hid r2
  clear r1 r2 HQ2 c52
  go_wp2_with fail
  go_ret
  exact HR2.out (by trivial)
set_option maxRecDepth 100000 in
set_option maxHeartbeats 1000000 in
theorem rename_sameD (h : CB w P lo st qb qo pl tag S room (freeL S) T) (hG : br.Good S room) (hr : room ≤ 65536) (hT : T ≤ 900000) {D t I : Nat} {s u : ByteArray} (hm : u.size ≤ 9223372036854775807) (h1 : S.dirE (D : Int) true = 0) (hg : lget s (S.ino D).dir = some (I : Int)) (gg : S.get (D : Int) s = ((I : Int), 0)) (h2 : S.dirE (t : Int) true = 0) (h3 : nameE u = 0) (hk : (S.ino I).kind = 2) (hb : S.below (t : Int) (I : Int) 300 = false) (hu : lget u (S.ino t).dir = some (I : Int)) : Calls Tryz.prog 48 #[Pq P, .int .i64 (D : Int), .string s, .int .i64 (t : Int), .string u] w (RetG w P lo st qb tag (.int .i64 (S.rename (D : Int) s (t : Int) u).1) (S.rename (D : Int) s (t : Int) u).2 room T) := by
  obtain ⟨D', hD', d1, d2, hDk, _⟩ := dirE_ok h1
  obtain rfl : D = D' := by omega
  obtain ⟨t', ht', t1, t2, htk, htl⟩ := dirE_ok h2
  obtain rfl : t = t' := by omega
  obtain ⟨_, _, I', hI', i1, i2, iroot, hli, hni⟩ := hG.1.lead hg
  obtain rfl : I = I' := by omega
  have hID : I ≠ D := fun e => hG.1.own hG.2 (D := D) (s := s) (by rw [hg, e])
  have HN := Lib.hid (named_any h hG (D : Int) s)
  unfold RetW at HN
  have hn : namV S pl (D : Int) s = .tuple #[Pq (pl D).nd, .int .i64 (I : Int), .int .i64 0] := by unfold namV; rw [if_neg (by omega), gg]; rfl
  rw [hn] at HN
  have HC := Lib.hid (fun w2 (hb : Below w.heap.size w w2) => changed_any (h.below hb) hG.z0 (t : Int))
  rw [listV_ok h2] at HC
  have HNN := Lib.hid (fun w2 => newName_any u w2 hm)
  unfold RetI at HNN
  rw [h3] at HNN
  have HSI := Lib.hid (fun w2 (hb : Below w.heap.size w w2) => (h.below hb).slot i2 hni)
  have HKI := Lib.hid (fun w2 (hb : Below w.heap.size w w2) => ((h.below hb).ino I i2 hni).c0)
  have HT5 := Lib.hid (fun w2 (hb : Below w.heap.size w w2) => ((h.below hb).ino t t2 (by rw [htk]; decide)).c5d htk)
  have HGT := Lib.hid (fun w2 (hb : Below w.heap.size w w2) => (h.below hb).get hG htk u)
  have HF := Lib.hid (fun w2 v hb => RetG.same (w' := w2) h v hb)
  have hnu := nameE_ok h3
  have hIt : I ≠ t := fun e => by subst e; rw [below_self] at hb; cases hb
  have HWI := Lib.hid (fun w2 (hb : Below w.heap.size w w2) => within_any (h.below hb) hG iroot htk (htl rfl))
  rw [hb] at HWI
  rw [hk] at HKI
  have hv := Lib.hid (show S.rename (D : Int) s (t : Int) u = (0, S) by rw [rename_pre h1 gg h2 h3 (fun _ => hb), hu]; dsimp only; rw [if_pos rfl])
  rw [hv.out]
  have hgv : getV u (S.ino t).dir = .tuple #[.int .i64 (I : Int), .int .i64 0] := by unfold getV; rw [hu]
  rw [hgv] at HGT
  generalize (pl D).nd = N at *
  generalize (pl I).nd = M at *
  generalize (pl t).nd = U at *
  generalize (pl t).di = E at *
  clear h hG hr hT hn hgv hv hg gg h1 h2 h3 hu hk hb
  go_enter Tryz.func48, Tryz.ntmps48
  go_wp2_with fail
  refine HN.out.mono ?_
  rintro e w2 ⟨rfl, hb⟩
  have HC2 := Lib.hid (HC.out _ hb)
  go_wp2_with fail
  refine HC2.out.mono ?_
  rintro e w3 ⟨rfl, rfl⟩
  go_wp2_with fail
  refine (HNN.out _).mono ?_
  rintro e w4 ⟨rfl, hb4⟩
  have hB4 := dn.below_step hb hb4
  have HB4 := Lib.hid hB4
  have cs := HSI.out w4 hB4
  have c0 := HKI.out w4 hB4
  have ct := HT5.out w4 hB4
  clear hb hb4 HN HC HC2 HNN hB4
  go_wp2_with fail
  refine (HWI.out w4 HB4.out).mono ?_
  rintro e w4 ⟨rfl, rfl⟩
  clear HWI
  have HG2 := Lib.hid (HGT.out w4 HB4.out)
  clear HGT
  go_wp2_with fail
  refine HG2.out.mono ?_
  rintro e w6 ⟨rfl, hb6⟩
  have hB6 := dn.below_step HB4.out hb6
  have HB6 := Lib.hid hB6
  clear HG2 cs c0 ct HB4 hb6
  have cs := HSI.out w6 hB6
  have c0 := HKI.out w6 hB6
  go_wp2_with fail
  go_ret
  exact HF.out _ _ hB6
set_option maxRecDepth 100000 in
set_option maxHeartbeats 1000000 in
theorem rename_barsD (h : CB w P lo st qb qo pl tag S room (freeL S) T) (hG : br.Good S room) (hr : room ≤ 65536) (hT : T ≤ 900000) {D t I : Nat} {s u : ByteArray} (hm : u.size ≤ 9223372036854775807) (h1 : S.dirE (D : Int) true = 0) (hg : lget s (S.ino D).dir = some (I : Int)) (gg : S.get (D : Int) s = ((I : Int), 0)) (h2 : S.dirE (t : Int) true = 0) (h3 : nameE u = 0) (hk : (S.ino I).kind = 2) (hb : S.below (t : Int) (I : Int) 300 = false) {J : Nat} (hu : lget u (S.ino t).dir = some (J : Int)) (hJI : J ≠ I) (he : replE S I J ≠ 0) : Calls Tryz.prog 48 #[Pq P, .int .i64 (D : Int), .string s, .int .i64 (t : Int), .string u] w (RetG w P lo st qb tag (.int .i64 (S.rename (D : Int) s (t : Int) u).1) (S.rename (D : Int) s (t : Int) u).2 room T) := by
  obtain ⟨D', hD', d1, d2, hDk, _⟩ := dirE_ok h1
  obtain rfl : D = D' := by omega
  obtain ⟨t', ht', t1, t2, htk, htl⟩ := dirE_ok h2
  obtain rfl : t = t' := by omega
  obtain ⟨_, _, I', hI', i1, i2, iroot, hli, hni⟩ := hG.1.lead hg
  obtain rfl : I = I' := by omega
  have hID : I ≠ D := fun e => hG.1.own hG.2 (D := D) (s := s) (by rw [hg, e])
  have HN := Lib.hid (named_any h hG (D : Int) s)
  unfold RetW at HN
  have hn : namV S pl (D : Int) s = .tuple #[Pq (pl D).nd, .int .i64 (I : Int), .int .i64 0] := by unfold namV; rw [if_neg (by omega), gg]; rfl
  rw [hn] at HN
  have HC := Lib.hid (fun w2 (hb : Below w.heap.size w w2) => changed_any (h.below hb) hG.z0 (t : Int))
  rw [listV_ok h2] at HC
  have HNN := Lib.hid (fun w2 => newName_any u w2 hm)
  unfold RetI at HNN
  rw [h3] at HNN
  have HSI := Lib.hid (fun w2 (hb : Below w.heap.size w w2) => (h.below hb).slot i2 hni)
  have HKI := Lib.hid (fun w2 (hb : Below w.heap.size w w2) => ((h.below hb).ino I i2 hni).c0)
  have HT5 := Lib.hid (fun w2 (hb : Below w.heap.size w w2) => ((h.below hb).ino t t2 (by rw [htk]; decide)).c5d htk)
  have HGT := Lib.hid (fun w2 (hb : Below w.heap.size w w2) => (h.below hb).get hG htk u)
  have HF := Lib.hid (fun w2 v hb => RetG.same (w' := w2) h v hb)
  have hnu := nameE_ok h3
  have hIt : I ≠ t := fun e => by subst e; rw [below_self] at hb; cases hb
  have HWI := Lib.hid (fun w2 (hb : Below w.heap.size w w2) => within_any (h.below hb) hG iroot htk (htl rfl))
  rw [hb] at HWI
  rw [hk] at HKI
  obtain ⟨_, _, J', hJ', j1, j2, _, hlj, hnj⟩ := hG.1.lead hu
  obtain rfl : J = J' := by omega
  have hv := Lib.hid ((rename_repl h1 gg h2 h3 (fun _ => hb) hu hJI).trans (if_neg he))
  rw [hv.out]
  have hgv : getV u (S.ino t).dir = .tuple #[.int .i64 (J : Int), .int .i64 0] := by unfold getV; rw [hu]
  rw [hgv] at HGT
  have HSJ := Lib.hid (fun w2 (hb : Below w.heap.size w w2) => (h.below hb).slot j2 hnj)
  have HRP := Lib.hid (fun w2 (hb : Below w.heap.size w w2) => replaces_any (h.below hb) hG hni hnj)
  have q1 : ((J : Int) == (I : Int)) = false := by simp; omega
  generalize replE S I J = x at *
  have qx : (x != 0) = true := by simpa using he
  generalize (pl D).nd = N at *
  generalize (pl I).nd = M at *
  generalize (pl t).nd = U at *
  generalize (pl t).di = E at *
  generalize (pl J).nd = V at *
  clear h hG hr hT hn hgv hv hg gg h1 h2 h3 hu hk hb
  go_enter Tryz.func48, Tryz.ntmps48
  go_wp2_with fail
  refine HN.out.mono ?_
  rintro e w2 ⟨rfl, hb⟩
  have HC2 := Lib.hid (HC.out _ hb)
  go_wp2_with fail
  refine HC2.out.mono ?_
  rintro e w3 ⟨rfl, rfl⟩
  go_wp2_with fail
  refine (HNN.out _).mono ?_
  rintro e w4 ⟨rfl, hb4⟩
  have hB4 := dn.below_step hb hb4
  have HB4 := Lib.hid hB4
  have cs := HSI.out w4 hB4
  have c0 := HKI.out w4 hB4
  have ct := HT5.out w4 hB4
  clear hb hb4 HN HC HC2 HNN hB4
  go_wp2_with fail
  refine (HWI.out w4 HB4.out).mono ?_
  rintro e w4 ⟨rfl, rfl⟩
  clear HWI
  have HG2 := Lib.hid (HGT.out w4 HB4.out)
  clear HGT
  go_wp2_with fail
  refine HG2.out.mono ?_
  rintro e w6 ⟨rfl, hb6⟩
  have hB6 := dn.below_step HB4.out hb6
  have HB6 := Lib.hid hB6
  clear HG2 cs c0 ct HB4 hb6
  have cs := HSI.out w6 hB6
  have c0 := HKI.out w6 hB6
  have cj := HSJ.out w6 hB6
  have HRP2 := Lib.hid (HRP.out w6 hB6)
  clear HRP HSJ
  go_wp2_with fail
  refine HRP2.out.mono ?_
  rintro e w7 ⟨rfl, rfl⟩
  go_wp2_with fail
  go_ret
  exact HF.out _ _ hB6
set_option maxRecDepth 100000 in
set_option maxHeartbeats 1000000 in
theorem rename_overD (h : CB w P lo st qb qo pl tag S room (freeL S) T) (hG : br.Good S room) (hr : room ≤ 65536) (hT : T ≤ 900000) {D t I : Nat} {s u : ByteArray} (hm : u.size ≤ 9223372036854775807) (h1 : S.dirE (D : Int) true = 0) (hg : lget s (S.ino D).dir = some (I : Int)) (gg : S.get (D : Int) s = ((I : Int), 0)) (h2 : S.dirE (t : Int) true = 0) (h3 : nameE u = 0) (hk : (S.ino I).kind = 2) (hb : S.below (t : Int) (I : Int) 300 = false) {J : Nat} (hu : lget u (S.ino t).dir = some (J : Int)) (hJI : J ≠ I) (he : replE S I J = 0) : Calls Tryz.prog 48 #[Pq P, .int .i64 (D : Int), .string s, .int .i64 (t : Int), .string u] w (RetG w P lo st qb tag (.int .i64 (S.rename (D : Int) s (t : Int) u).1) (S.rename (D : Int) s (t : Int) u).2 room T) := by
  obtain ⟨D', hD', d1, d2, hDk, _⟩ := dirE_ok h1
  obtain rfl : D = D' := by omega
  obtain ⟨t', ht', t1, t2, htk, htl⟩ := dirE_ok h2
  obtain rfl : t = t' := by omega
  obtain ⟨_, _, I', hI', i1, i2, iroot, hli, hni⟩ := hG.1.lead hg
  obtain rfl : I = I' := by omega
  have hID : I ≠ D := fun e => hG.1.own hG.2 (D := D) (s := s) (by rw [hg, e])
  have HN := Lib.hid (named_any h hG (D : Int) s)
  unfold RetW at HN
  have hn : namV S pl (D : Int) s = .tuple #[Pq (pl D).nd, .int .i64 (I : Int), .int .i64 0] := by unfold namV; rw [if_neg (by omega), gg]; rfl
  rw [hn] at HN
  have HC := Lib.hid (fun w2 (hb : Below w.heap.size w w2) => changed_any (h.below hb) hG.z0 (t : Int))
  rw [listV_ok h2] at HC
  have HNN := Lib.hid (fun w2 => newName_any u w2 hm)
  unfold RetI at HNN
  rw [h3] at HNN
  have HSI := Lib.hid (fun w2 (hb : Below w.heap.size w w2) => (h.below hb).slot i2 hni)
  have HKI := Lib.hid (fun w2 (hb : Below w.heap.size w w2) => ((h.below hb).ino I i2 hni).c0)
  have HT5 := Lib.hid (fun w2 (hb : Below w.heap.size w w2) => ((h.below hb).ino t t2 (by rw [htk]; decide)).c5d htk)
  have HGT := Lib.hid (fun w2 (hb : Below w.heap.size w w2) => (h.below hb).get hG htk u)
  have HF := Lib.hid (fun w2 v hb => RetG.same (w' := w2) h v hb)
  have hnu := nameE_ok h3
  have hIt : I ≠ t := fun e => by subst e; rw [below_self] at hb; cases hb
  have HWI := Lib.hid (fun w2 (hb : Below w.heap.size w w2) => within_any (h.below hb) hG iroot htk (htl rfl))
  rw [hb] at HWI
  rw [hk] at HKI
  obtain ⟨_, _, J', hJ', j1, j2, _, hlj, hnj⟩ := hG.1.lead hu
  obtain rfl : J = J' := by omega
  have hv := Lib.hid ((rename_repl h1 gg h2 h3 (fun _ => hb) hu hJI).trans (if_pos he))
  rw [hv.out]
  have hgv : getV u (S.ino t).dir = .tuple #[.int .i64 (J : Int), .int .i64 0] := by unfold getV; rw [hu]
  rw [hgv] at HGT
  have HSJ := Lib.hid (fun w2 (hb : Below w.heap.size w w2) => (h.below hb).slot j2 hnj)
  have HRP := Lib.hid (fun w2 (hb : Below w.heap.size w w2) => replaces_any (h.below hb) hG hni hnj)
  have q1 : ((J : Int) == (I : Int)) = false := by simp; omega
  rw [he] at HRP
  have HUN := Lib.hid (fun w2 (hb : Below w.heap.size w w2) => unname_any (h.below hb) hG hr hT hu)
  obtain ⟨f1, f2, f3, f4⟩ := drop_facts hG hg hu hJI hIt (repl_dir he)
  have HTL := Lib.hid (fun w2 w7 (hb : Below w.heap.size w w2) (hx : NxF w2 w7 P lo st qb pl tag (S.drop (t : Int) u (J : Int)) room T) => (show TailE w P lo st qb pl tag (S.drop (t : Int) u (J : Int)) room T D t I s u (S.ino I).kind (S.ino I).parent w7 from by
    obtain ⟨T', hT', qo', pl', tag', k1, k2, k3⟩ := hx
    have := tail_any (w := w) (pl := pl) (tag := tag) (T0 := T) (s := s) (u := u) (I := I) f1 hT' f2 f3 (by rw [f4]; exact hni) hID hIt hnu hm k1 ((Stp.below hb).trans k2) k3
    rw [f4] at this; exact this))
  unfold TailE at HTL
  clear f1 f2 f3 f4
  rw [hk] at HTL
  generalize (pl D).nd = N at *
  generalize (pl I).nd = M at *
  generalize (pl t).nd = U at *
  generalize (pl t).di = E at *
  generalize (pl J).nd = V at *
  clear h hG hr hT hn hgv hv hg gg h1 h2 h3 HF hu hk he hb
  go_enter Tryz.func48, Tryz.ntmps48
  go_wp2_with fail
  refine HN.out.mono ?_
  rintro e w2 ⟨rfl, hb⟩
  have HC2 := Lib.hid (HC.out _ hb)
  go_wp2_with fail
  refine HC2.out.mono ?_
  rintro e w3 ⟨rfl, rfl⟩
  go_wp2_with fail
  refine (HNN.out _).mono ?_
  rintro e w4 ⟨rfl, hb4⟩
  have hB4 := dn.below_step hb hb4
  have HB4 := Lib.hid hB4
  have cs := HSI.out w4 hB4
  have c0 := HKI.out w4 hB4
  have ct := HT5.out w4 hB4
  clear hb hb4 HN HC HC2 HNN hB4
  go_wp2_with fail
  refine (HWI.out w4 HB4.out).mono ?_
  rintro e w4 ⟨rfl, rfl⟩
  clear HWI
  have HG2 := Lib.hid (HGT.out w4 HB4.out)
  clear HGT
  go_wp2_with fail
  refine HG2.out.mono ?_
  rintro e w6 ⟨rfl, hb6⟩
  have hB6 := dn.below_step HB4.out hb6
  have HB6 := Lib.hid hB6
  clear HG2 cs c0 ct HB4 hb6
  have cs := HSI.out w6 hB6
  have c0 := HKI.out w6 hB6
  have cj := HSJ.out w6 hB6
  have HRP2 := Lib.hid (HRP.out w6 hB6)
  have HU2 := Lib.hid (HUN.out w6 hB6)
  clear HRP HSJ HUN hB6
  go_wp2_with fail
  refine HRP2.out.mono ?_
  rintro e w6 ⟨rfl, rfl⟩
  go_wp2_with fail
  refine HU2.out.mono ?_
  rintro e w9 ⟨rfl, hx⟩
  clear cs c0 cj HU2 HRP2
  obtain ⟨C, c5, hq⟩ := HTL.out _ w9 HB6.out hx
  have HQ := Lib.hid hq
  clear hq
  go_wp2_with fail
  refine HQ.out.mono ?_
  rintro e w7 ⟨v7, rfl, C2, c52, hq2⟩
  have HQ2 := Lib.hid hq2
  clear hq2 HQ c5
  go_wp2_with fail
  refine HQ2.out.mono ?_
  rintro e w8 ⟨rfl, a0, a6, f6, r1, r2⟩
  have HR1 := Lib.hid r1
  have HR2 := Lib.hid r2
  clear r1 r2 HQ2 c52
  go_wp2_with fail
  go_ret
  exact HR2.out (by trivial)
set_option maxRecDepth 100000 in
set_option maxHeartbeats 1000000 in
theorem rename_newF (h : CB w P lo st qb qo pl tag S room (freeL S) T) (hG : br.Good S room) (hr : room ≤ 65536) (hT : T ≤ 900000) {D t I : Nat} {s u : ByteArray} (hm : u.size ≤ 9223372036854775807) (h1 : S.dirE (D : Int) true = 0) (hg : lget s (S.ino D).dir = some (I : Int)) (gg : S.get (D : Int) s = ((I : Int), 0)) (h2 : S.dirE (t : Int) true = 0) (h3 : nameE u = 0) (hk : (S.ino I).kind ≠ 2) (hu : lget u (S.ino t).dir = none) : Calls Tryz.prog 48 #[Pq P, .int .i64 (D : Int), .string s, .int .i64 (t : Int), .string u] w (RetG w P lo st qb tag (.int .i64 (S.rename (D : Int) s (t : Int) u).1) (S.rename (D : Int) s (t : Int) u).2 room T) := by
  obtain ⟨D', hD', d1, d2, hDk, _⟩ := dirE_ok h1
  obtain rfl : D = D' := by omega
  obtain ⟨t', ht', t1, t2, htk, htl⟩ := dirE_ok h2
  obtain rfl : t = t' := by omega
  obtain ⟨_, _, I', hI', i1, i2, iroot, hli, hni⟩ := hG.1.lead hg
  obtain rfl : I = I' := by omega
  have hID : I ≠ D := fun e => hG.1.own hG.2 (D := D) (s := s) (by rw [hg, e])
  have HN := Lib.hid (named_any h hG (D : Int) s)
  unfold RetW at HN
  have hn : namV S pl (D : Int) s = .tuple #[Pq (pl D).nd, .int .i64 (I : Int), .int .i64 0] := by unfold namV; rw [if_neg (by omega), gg]; rfl
  rw [hn] at HN
  have HC := Lib.hid (fun w2 (hb : Below w.heap.size w w2) => changed_any (h.below hb) hG.z0 (t : Int))
  rw [listV_ok h2] at HC
  have HNN := Lib.hid (fun w2 => newName_any u w2 hm)
  unfold RetI at HNN
  rw [h3] at HNN
  have HSI := Lib.hid (fun w2 (hb : Below w.heap.size w w2) => (h.below hb).slot i2 hni)
  have HKI := Lib.hid (fun w2 (hb : Below w.heap.size w w2) => ((h.below hb).ino I i2 hni).c0)
  have HT5 := Lib.hid (fun w2 (hb : Below w.heap.size w w2) => ((h.below hb).ino t t2 (by rw [htk]; decide)).c5d htk)
  have HGT := Lib.hid (fun w2 (hb : Below w.heap.size w w2) => (h.below hb).get hG htk u)
  have HF := Lib.hid (fun w2 v hb => RetG.same (w' := w2) h v hb)
  have hnu := nameE_ok h3
  have hIt : I ≠ t := fun e => by subst e; exact hk htk
  have hk2 : ((S.ino I).kind == 2) = false := by simpa using hk
  have hv := Lib.hid (show S.rename (D : Int) s (t : Int) u = (0, S.move (D : Int) s (t : Int) u (I : Int)) by rw [rename_pre h1 gg h2 h3 (fun e => absurd e hk), hu])
  rw [hv.out]
  have hgv : getV u (S.ino t).dir = .tuple #[.int .i64 0, .int .i64 2] := by unfold getV; rw [hu]
  rw [hgv] at HGT
  have HTL := Lib.hid (fun w2 (hb : Below w.heap.size w w2) => tail_any (w := w) (T0 := T) (s := s) (u := u) hG (Nat.le_succ T) hDk htk hni hID hIt hnu hm (h.below hb) (Stp.below hb) (fun _ _ => rfl))
  unfold TailE at HTL
  have HKN := Lib.hid hk
  generalize (S.ino I).kind = K at *
  generalize (pl D).nd = N at *
  generalize (pl I).nd = M at *
  generalize (pl t).nd = U at *
  generalize (pl t).di = E at *
  clear h hG hr hT hn hgv hv hg gg h1 h2 h3 HF hu hk
  go_enter Tryz.func48, Tryz.ntmps48
  go_wp2_with fail
  refine HN.out.mono ?_
  rintro e w2 ⟨rfl, hb⟩
  have HC2 := Lib.hid (HC.out _ hb)
  go_wp2_with fail
  refine HC2.out.mono ?_
  rintro e w3 ⟨rfl, rfl⟩
  go_wp2_with fail
  refine (HNN.out _).mono ?_
  rintro e w4 ⟨rfl, hb4⟩
  have hB4 := dn.below_step hb hb4
  have HB4 := Lib.hid hB4
  have cs := HSI.out w4 hB4
  have c0 := HKI.out w4 hB4
  have ct := HT5.out w4 hB4
  clear hb hb4 HN HC HC2 HNN hB4
  have HG2 := Lib.hid (HGT.out w4 HB4.out)
  clear HGT
  go_wp2_with fail
  refine HG2.out.mono ?_
  rintro e w6 ⟨rfl, hb6⟩
  have hB6 := dn.below_step HB4.out hb6
  have HB6 := Lib.hid hB6
  clear HG2 cs c0 ct HB4 hb6
  have cs := HSI.out w6 hB6
  have c0 := HKI.out w6 hB6
  obtain ⟨C, c5, hq⟩ := HTL.out w6 hB6
  have HQ := Lib.hid hq
  clear hq
  go_wp2_with fail
  refine HQ.out.mono ?_
  rintro e w7 ⟨v7, rfl, C2, c52, hq2⟩
  have HQ2 := Lib.hid hq2
  clear hq2 HQ c5
  go_wp2_with fail
  refine HQ2.out.mono ?_
  rintro e w8 ⟨rfl, a0, a6, f6, r1, r2⟩
  have HR1 := Lib.hid r1
  have HR2 := Lib.hid r2
  clear r1 r2 HQ2 c52
  go_wp2_with fail
  go_ret
  exact HR1.out HKN.out
set_option maxRecDepth 100000 in
set_option maxHeartbeats 1000000 in
theorem rename_sameF (h : CB w P lo st qb qo pl tag S room (freeL S) T) (hG : br.Good S room) (hr : room ≤ 65536) (hT : T ≤ 900000) {D t I : Nat} {s u : ByteArray} (hm : u.size ≤ 9223372036854775807) (h1 : S.dirE (D : Int) true = 0) (hg : lget s (S.ino D).dir = some (I : Int)) (gg : S.get (D : Int) s = ((I : Int), 0)) (h2 : S.dirE (t : Int) true = 0) (h3 : nameE u = 0) (hk : (S.ino I).kind ≠ 2) (hu : lget u (S.ino t).dir = some (I : Int)) : Calls Tryz.prog 48 #[Pq P, .int .i64 (D : Int), .string s, .int .i64 (t : Int), .string u] w (RetG w P lo st qb tag (.int .i64 (S.rename (D : Int) s (t : Int) u).1) (S.rename (D : Int) s (t : Int) u).2 room T) := by
  obtain ⟨D', hD', d1, d2, hDk, _⟩ := dirE_ok h1
  obtain rfl : D = D' := by omega
  obtain ⟨t', ht', t1, t2, htk, htl⟩ := dirE_ok h2
  obtain rfl : t = t' := by omega
  obtain ⟨_, _, I', hI', i1, i2, iroot, hli, hni⟩ := hG.1.lead hg
  obtain rfl : I = I' := by omega
  have hID : I ≠ D := fun e => hG.1.own hG.2 (D := D) (s := s) (by rw [hg, e])
  have HN := Lib.hid (named_any h hG (D : Int) s)
  unfold RetW at HN
  have hn : namV S pl (D : Int) s = .tuple #[Pq (pl D).nd, .int .i64 (I : Int), .int .i64 0] := by unfold namV; rw [if_neg (by omega), gg]; rfl
  rw [hn] at HN
  have HC := Lib.hid (fun w2 (hb : Below w.heap.size w w2) => changed_any (h.below hb) hG.z0 (t : Int))
  rw [listV_ok h2] at HC
  have HNN := Lib.hid (fun w2 => newName_any u w2 hm)
  unfold RetI at HNN
  rw [h3] at HNN
  have HSI := Lib.hid (fun w2 (hb : Below w.heap.size w w2) => (h.below hb).slot i2 hni)
  have HKI := Lib.hid (fun w2 (hb : Below w.heap.size w w2) => ((h.below hb).ino I i2 hni).c0)
  have HT5 := Lib.hid (fun w2 (hb : Below w.heap.size w w2) => ((h.below hb).ino t t2 (by rw [htk]; decide)).c5d htk)
  have HGT := Lib.hid (fun w2 (hb : Below w.heap.size w w2) => (h.below hb).get hG htk u)
  have HF := Lib.hid (fun w2 v hb => RetG.same (w' := w2) h v hb)
  have hnu := nameE_ok h3
  have hIt : I ≠ t := fun e => by subst e; exact hk htk
  have hk2 : ((S.ino I).kind == 2) = false := by simpa using hk
  have hv := Lib.hid (show S.rename (D : Int) s (t : Int) u = (0, S) by rw [rename_pre h1 gg h2 h3 (fun e => absurd e hk), hu]; dsimp only; rw [if_pos rfl])
  rw [hv.out]
  have hgv : getV u (S.ino t).dir = .tuple #[.int .i64 (I : Int), .int .i64 0] := by unfold getV; rw [hu]
  rw [hgv] at HGT
  generalize (S.ino I).kind = K at *
  generalize (pl D).nd = N at *
  generalize (pl I).nd = M at *
  generalize (pl t).nd = U at *
  generalize (pl t).di = E at *
  clear h hG hr hT hn hgv hv hg gg h1 h2 h3 hu hk
  go_enter Tryz.func48, Tryz.ntmps48
  go_wp2_with fail
  refine HN.out.mono ?_
  rintro e w2 ⟨rfl, hb⟩
  have HC2 := Lib.hid (HC.out _ hb)
  go_wp2_with fail
  refine HC2.out.mono ?_
  rintro e w3 ⟨rfl, rfl⟩
  go_wp2_with fail
  refine (HNN.out _).mono ?_
  rintro e w4 ⟨rfl, hb4⟩
  have hB4 := dn.below_step hb hb4
  have HB4 := Lib.hid hB4
  have cs := HSI.out w4 hB4
  have c0 := HKI.out w4 hB4
  have ct := HT5.out w4 hB4
  clear hb hb4 HN HC HC2 HNN hB4
  have HG2 := Lib.hid (HGT.out w4 HB4.out)
  clear HGT
  go_wp2_with fail
  refine HG2.out.mono ?_
  rintro e w6 ⟨rfl, hb6⟩
  have hB6 := dn.below_step HB4.out hb6
  have HB6 := Lib.hid hB6
  clear HG2 cs c0 ct HB4 hb6
  have cs := HSI.out w6 hB6
  have c0 := HKI.out w6 hB6
  go_wp2_with fail
  go_ret
  exact HF.out _ _ hB6
set_option maxRecDepth 100000 in
set_option maxHeartbeats 1000000 in
theorem rename_barsF (h : CB w P lo st qb qo pl tag S room (freeL S) T) (hG : br.Good S room) (hr : room ≤ 65536) (hT : T ≤ 900000) {D t I : Nat} {s u : ByteArray} (hm : u.size ≤ 9223372036854775807) (h1 : S.dirE (D : Int) true = 0) (hg : lget s (S.ino D).dir = some (I : Int)) (gg : S.get (D : Int) s = ((I : Int), 0)) (h2 : S.dirE (t : Int) true = 0) (h3 : nameE u = 0) (hk : (S.ino I).kind ≠ 2) {J : Nat} (hu : lget u (S.ino t).dir = some (J : Int)) (hJI : J ≠ I) (he : replE S I J ≠ 0) : Calls Tryz.prog 48 #[Pq P, .int .i64 (D : Int), .string s, .int .i64 (t : Int), .string u] w (RetG w P lo st qb tag (.int .i64 (S.rename (D : Int) s (t : Int) u).1) (S.rename (D : Int) s (t : Int) u).2 room T) := by
  obtain ⟨D', hD', d1, d2, hDk, _⟩ := dirE_ok h1
  obtain rfl : D = D' := by omega
  obtain ⟨t', ht', t1, t2, htk, htl⟩ := dirE_ok h2
  obtain rfl : t = t' := by omega
  obtain ⟨_, _, I', hI', i1, i2, iroot, hli, hni⟩ := hG.1.lead hg
  obtain rfl : I = I' := by omega
  have hID : I ≠ D := fun e => hG.1.own hG.2 (D := D) (s := s) (by rw [hg, e])
  have HN := Lib.hid (named_any h hG (D : Int) s)
  unfold RetW at HN
  have hn : namV S pl (D : Int) s = .tuple #[Pq (pl D).nd, .int .i64 (I : Int), .int .i64 0] := by unfold namV; rw [if_neg (by omega), gg]; rfl
  rw [hn] at HN
  have HC := Lib.hid (fun w2 (hb : Below w.heap.size w w2) => changed_any (h.below hb) hG.z0 (t : Int))
  rw [listV_ok h2] at HC
  have HNN := Lib.hid (fun w2 => newName_any u w2 hm)
  unfold RetI at HNN
  rw [h3] at HNN
  have HSI := Lib.hid (fun w2 (hb : Below w.heap.size w w2) => (h.below hb).slot i2 hni)
  have HKI := Lib.hid (fun w2 (hb : Below w.heap.size w w2) => ((h.below hb).ino I i2 hni).c0)
  have HT5 := Lib.hid (fun w2 (hb : Below w.heap.size w w2) => ((h.below hb).ino t t2 (by rw [htk]; decide)).c5d htk)
  have HGT := Lib.hid (fun w2 (hb : Below w.heap.size w w2) => (h.below hb).get hG htk u)
  have HF := Lib.hid (fun w2 v hb => RetG.same (w' := w2) h v hb)
  have hnu := nameE_ok h3
  have hIt : I ≠ t := fun e => by subst e; exact hk htk
  have hk2 : ((S.ino I).kind == 2) = false := by simpa using hk
  obtain ⟨_, _, J', hJ', j1, j2, _, hlj, hnj⟩ := hG.1.lead hu
  obtain rfl : J = J' := by omega
  have hv := Lib.hid ((rename_repl h1 gg h2 h3 (fun e => absurd e hk) hu hJI).trans (if_neg he))
  rw [hv.out]
  have hgv : getV u (S.ino t).dir = .tuple #[.int .i64 (J : Int), .int .i64 0] := by unfold getV; rw [hu]
  rw [hgv] at HGT
  have HSJ := Lib.hid (fun w2 (hb : Below w.heap.size w w2) => (h.below hb).slot j2 hnj)
  have HRP := Lib.hid (fun w2 (hb : Below w.heap.size w w2) => replaces_any (h.below hb) hG hni hnj)
  have q1 : ((J : Int) == (I : Int)) = false := by simp; omega
  generalize replE S I J = x at *
  have qx : (x != 0) = true := by simpa using he
  generalize (S.ino I).kind = K at *
  generalize (pl D).nd = N at *
  generalize (pl I).nd = M at *
  generalize (pl t).nd = U at *
  generalize (pl t).di = E at *
  generalize (pl J).nd = V at *
  clear h hG hr hT hn hgv hv hg gg h1 h2 h3 hu hk
  go_enter Tryz.func48, Tryz.ntmps48
  go_wp2_with fail
  refine HN.out.mono ?_
  rintro e w2 ⟨rfl, hb⟩
  have HC2 := Lib.hid (HC.out _ hb)
  go_wp2_with fail
  refine HC2.out.mono ?_
  rintro e w3 ⟨rfl, rfl⟩
  go_wp2_with fail
  refine (HNN.out _).mono ?_
  rintro e w4 ⟨rfl, hb4⟩
  have hB4 := dn.below_step hb hb4
  have HB4 := Lib.hid hB4
  have cs := HSI.out w4 hB4
  have c0 := HKI.out w4 hB4
  have ct := HT5.out w4 hB4
  clear hb hb4 HN HC HC2 HNN hB4
  have HG2 := Lib.hid (HGT.out w4 HB4.out)
  clear HGT
  go_wp2_with fail
  refine HG2.out.mono ?_
  rintro e w6 ⟨rfl, hb6⟩
  have hB6 := dn.below_step HB4.out hb6
  have HB6 := Lib.hid hB6
  clear HG2 cs c0 ct HB4 hb6
  have cs := HSI.out w6 hB6
  have c0 := HKI.out w6 hB6
  have cj := HSJ.out w6 hB6
  have HRP2 := Lib.hid (HRP.out w6 hB6)
  clear HRP HSJ
  go_wp2_with fail
  refine HRP2.out.mono ?_
  rintro e w7 ⟨rfl, rfl⟩
  go_wp2_with fail
  go_ret
  exact HF.out _ _ hB6
set_option maxRecDepth 100000 in
set_option maxHeartbeats 1000000 in
theorem rename_overF (h : CB w P lo st qb qo pl tag S room (freeL S) T) (hG : br.Good S room) (hr : room ≤ 65536) (hT : T ≤ 900000) {D t I : Nat} {s u : ByteArray} (hm : u.size ≤ 9223372036854775807) (h1 : S.dirE (D : Int) true = 0) (hg : lget s (S.ino D).dir = some (I : Int)) (gg : S.get (D : Int) s = ((I : Int), 0)) (h2 : S.dirE (t : Int) true = 0) (h3 : nameE u = 0) (hk : (S.ino I).kind ≠ 2) {J : Nat} (hu : lget u (S.ino t).dir = some (J : Int)) (hJI : J ≠ I) (he : replE S I J = 0) : Calls Tryz.prog 48 #[Pq P, .int .i64 (D : Int), .string s, .int .i64 (t : Int), .string u] w (RetG w P lo st qb tag (.int .i64 (S.rename (D : Int) s (t : Int) u).1) (S.rename (D : Int) s (t : Int) u).2 room T) := by
  obtain ⟨D', hD', d1, d2, hDk, _⟩ := dirE_ok h1
  obtain rfl : D = D' := by omega
  obtain ⟨t', ht', t1, t2, htk, htl⟩ := dirE_ok h2
  obtain rfl : t = t' := by omega
  obtain ⟨_, _, I', hI', i1, i2, iroot, hli, hni⟩ := hG.1.lead hg
  obtain rfl : I = I' := by omega
  have hID : I ≠ D := fun e => hG.1.own hG.2 (D := D) (s := s) (by rw [hg, e])
  have HN := Lib.hid (named_any h hG (D : Int) s)
  unfold RetW at HN
  have hn : namV S pl (D : Int) s = .tuple #[Pq (pl D).nd, .int .i64 (I : Int), .int .i64 0] := by unfold namV; rw [if_neg (by omega), gg]; rfl
  rw [hn] at HN
  have HC := Lib.hid (fun w2 (hb : Below w.heap.size w w2) => changed_any (h.below hb) hG.z0 (t : Int))
  rw [listV_ok h2] at HC
  have HNN := Lib.hid (fun w2 => newName_any u w2 hm)
  unfold RetI at HNN
  rw [h3] at HNN
  have HSI := Lib.hid (fun w2 (hb : Below w.heap.size w w2) => (h.below hb).slot i2 hni)
  have HKI := Lib.hid (fun w2 (hb : Below w.heap.size w w2) => ((h.below hb).ino I i2 hni).c0)
  have HT5 := Lib.hid (fun w2 (hb : Below w.heap.size w w2) => ((h.below hb).ino t t2 (by rw [htk]; decide)).c5d htk)
  have HGT := Lib.hid (fun w2 (hb : Below w.heap.size w w2) => (h.below hb).get hG htk u)
  have HF := Lib.hid (fun w2 v hb => RetG.same (w' := w2) h v hb)
  have hnu := nameE_ok h3
  have hIt : I ≠ t := fun e => by subst e; exact hk htk
  have hk2 : ((S.ino I).kind == 2) = false := by simpa using hk
  obtain ⟨_, _, J', hJ', j1, j2, _, hlj, hnj⟩ := hG.1.lead hu
  obtain rfl : J = J' := by omega
  have hv := Lib.hid ((rename_repl h1 gg h2 h3 (fun e => absurd e hk) hu hJI).trans (if_pos he))
  rw [hv.out]
  have hgv : getV u (S.ino t).dir = .tuple #[.int .i64 (J : Int), .int .i64 0] := by unfold getV; rw [hu]
  rw [hgv] at HGT
  have HSJ := Lib.hid (fun w2 (hb : Below w.heap.size w w2) => (h.below hb).slot j2 hnj)
  have HRP := Lib.hid (fun w2 (hb : Below w.heap.size w w2) => replaces_any (h.below hb) hG hni hnj)
  have q1 : ((J : Int) == (I : Int)) = false := by simp; omega
  rw [he] at HRP
  have HUN := Lib.hid (fun w2 (hb : Below w.heap.size w w2) => unname_any (h.below hb) hG hr hT hu)
  obtain ⟨f1, f2, f3, f4⟩ := drop_facts hG hg hu hJI hIt (repl_dir he)
  have HTL := Lib.hid (fun w2 w7 (hb : Below w.heap.size w w2) (hx : NxF w2 w7 P lo st qb pl tag (S.drop (t : Int) u (J : Int)) room T) => (show TailE w P lo st qb pl tag (S.drop (t : Int) u (J : Int)) room T D t I s u (S.ino I).kind (S.ino I).parent w7 from by
    obtain ⟨T', hT', qo', pl', tag', k1, k2, k3⟩ := hx
    have := tail_any (w := w) (pl := pl) (tag := tag) (T0 := T) (s := s) (u := u) (I := I) f1 hT' f2 f3 (by rw [f4]; exact hni) hID hIt hnu hm k1 ((Stp.below hb).trans k2) k3
    rw [f4] at this; exact this))
  unfold TailE at HTL
  clear f1 f2 f3 f4
  have HKN := Lib.hid hk
  generalize (S.ino I).kind = K at *
  generalize (pl D).nd = N at *
  generalize (pl I).nd = M at *
  generalize (pl t).nd = U at *
  generalize (pl t).di = E at *
  generalize (pl J).nd = V at *
  clear h hG hr hT hn hgv hv hg gg h1 h2 h3 HF hu hk he
  go_enter Tryz.func48, Tryz.ntmps48
  go_wp2_with fail
  refine HN.out.mono ?_
  rintro e w2 ⟨rfl, hb⟩
  have HC2 := Lib.hid (HC.out _ hb)
  go_wp2_with fail
  refine HC2.out.mono ?_
  rintro e w3 ⟨rfl, rfl⟩
  go_wp2_with fail
  refine (HNN.out _).mono ?_
  rintro e w4 ⟨rfl, hb4⟩
  have hB4 := dn.below_step hb hb4
  have HB4 := Lib.hid hB4
  have cs := HSI.out w4 hB4
  have c0 := HKI.out w4 hB4
  have ct := HT5.out w4 hB4
  clear hb hb4 HN HC HC2 HNN hB4
  have HG2 := Lib.hid (HGT.out w4 HB4.out)
  clear HGT
  go_wp2_with fail
  refine HG2.out.mono ?_
  rintro e w6 ⟨rfl, hb6⟩
  have hB6 := dn.below_step HB4.out hb6
  have HB6 := Lib.hid hB6
  clear HG2 cs c0 ct HB4 hb6
  have cs := HSI.out w6 hB6
  have c0 := HKI.out w6 hB6
  have cj := HSJ.out w6 hB6
  have HRP2 := Lib.hid (HRP.out w6 hB6)
  have HU2 := Lib.hid (HUN.out w6 hB6)
  clear HRP HSJ HUN hB6
  go_wp2_with fail
  refine HRP2.out.mono ?_
  rintro e w6 ⟨rfl, rfl⟩
  go_wp2_with fail
  refine HU2.out.mono ?_
  rintro e w9 ⟨rfl, hx⟩
  clear cs c0 cj HU2 HRP2
  obtain ⟨C, c5, hq⟩ := HTL.out _ w9 HB6.out hx
  have HQ := Lib.hid hq
  clear hq
  go_wp2_with fail
  refine HQ.out.mono ?_
  rintro e w7 ⟨v7, rfl, C2, c52, hq2⟩
  have HQ2 := Lib.hid hq2
  clear hq2 HQ c5
  go_wp2_with fail
  refine HQ2.out.mono ?_
  rintro e w8 ⟨rfl, a0, a6, f6, r1, r2⟩
  have HR1 := Lib.hid r1
  have HR2 := Lib.hid r2
  clear r1 r2 HQ2 c52
  go_wp2_with fail
  go_ret
  exact HR1.out HKN.out
set_option maxRecDepth 100000 in
set_option maxHeartbeats 1000000 in
theorem rename_any (h : CB w P lo st qb qo pl tag S room (freeL S) T) (hG : br.Good S room) (hr : room ≤ 65536) (hT : T ≤ 900000) (d : Int) (s : ByteArray) (t : Int) (u : ByteArray) (hm : u.size ≤ 9223372036854775807) : Calls Tryz.prog 48 #[Pq P, .int .i64 d, .string s, .int .i64 t, .string u] w (RetG w P lo st qb tag (.int .i64 (S.rename d s t u).1) (S.rename d s t u).2 room T) := by
  have HN := Lib.hid (named_any h hG d s)
  unfold RetW at HN
  have HF := Lib.hid (fun w2 v hb => RetG.same (w' := w2) h v hb)
  by_cases h1 : S.dirE d true = 0
  · obtain ⟨D, rfl, d1, d2, hD, hl⟩ := dirE_ok h1
    rcases get_lead h1 s with ⟨g1, g2⟩ | ⟨v, g1, g2⟩
    · have hv := Lib.hid (show S.rename (D : Int) s t u = (2, S) by unfold BS.rename; rw [if_neg (by omega), if_pos (by rw [g2]; decide), g2])
      have hn : namV S pl (D : Int) s = .tuple #[Pq (pl D).nd, .int .i64 0, .int .i64 2] := by unfold namV; rw [if_neg (by omega), g2]; rfl
      rw [hn] at HN
      rw [hv.out]
      generalize (pl D).nd = N at *
      clear h hG g1 g2 hn hv h1
      go_enter Tryz.func48, Tryz.ntmps48
      go_wp2_with fail
      refine HN.out.mono ?_
      rintro e w2 ⟨rfl, hb⟩
      go_wp2_with fail
      go_ret
      exact HF.out _ _ hb
    · have hn : namV S pl (D : Int) s = .tuple #[Pq (pl D).nd, .int .i64 v, .int .i64 0] := by unfold namV; rw [if_neg (by omega), g2]; rfl
      obtain ⟨_, _, I, rfl, i1, i2, iroot, hli, hni⟩ := hG.1.lead g1
      by_cases h2 : S.dirE t true = 0
      · obtain ⟨t', rfl, t1, t2, htk, htl⟩ := dirE_ok h2
        by_cases h3 : nameE u = 0
        · by_cases hk : (S.ino I).kind = 2
          · cases hb : S.below (t' : Int) (I : Int) 300
            · cases hu : lget u (S.ino t').dir with
              | none => exact rename_newD h hG hr hT hm h1 g1 g2 h2 h3 hk hb hu
              | some old =>
                obtain ⟨_, _, J, rfl, _⟩ := hG.1.lead hu
                by_cases e : J = I
                · subst e; exact rename_sameD h hG hr hT hm h1 g1 g2 h2 h3 hk hb hu
                · by_cases he : replE S I J = 0
                  · exact rename_overD h hG hr hT hm h1 g1 g2 h2 h3 hk hb hu e he
                  · exact rename_barsD h hG hr hT hm h1 g1 g2 h2 h3 hk hb hu e he
            · have hv := Lib.hid (show S.rename (D : Int) s (t' : Int) u = (22, S) by
                unfold BS.rename
                rw [if_neg (by omega), g2, if_neg (by simp), if_neg (by omega), if_neg (by omega)]
                dsimp only
                rw [at_nat, if_pos ⟨hk, hb⟩])
              rw [hv.out]
              rw [hn] at HN
              have HC := Lib.hid (fun w2 (hb : Below w.heap.size w w2) => changed_any (h.below hb) hG.z0 (t' : Int))
              rw [listV_ok h2] at HC
              have HNN := Lib.hid (fun w2 => newName_any u w2 hm)
              unfold RetI at HNN
              rw [h3] at HNN
              have HSI := Lib.hid (fun w2 (hb : Below w.heap.size w w2) => (h.below hb).slot i2 hni)
              have HKI := Lib.hid (fun w2 (hb : Below w.heap.size w w2) => ((h.below hb).ino I i2 hni).c0)
              have HWI := Lib.hid (fun w2 (hb : Below w.heap.size w w2) => within_any (h.below hb) hG iroot htk (htl rfl))
              rw [hb] at HWI
              rw [hk] at HKI
              generalize (pl D).nd = N at *
              generalize (pl I).nd = M at *
              generalize (pl t').nd = U at *
              clear h hG hr hT hn hv g1 g2 h1 h2 h3 hk hb
              go_enter Tryz.func48, Tryz.ntmps48
              go_wp2_with fail
              refine HN.out.mono ?_
              rintro e w2 ⟨rfl, hb⟩
              have HC2 := Lib.hid (HC.out _ hb)
              go_wp2_with fail
              refine HC2.out.mono ?_
              rintro e w3 ⟨rfl, rfl⟩
              go_wp2_with fail
              refine (HNN.out _).mono ?_
              rintro e w4 ⟨rfl, hb4⟩
              have hB4 := dn.below_step hb hb4
              have cs := HSI.out w4 hB4
              have c0 := HKI.out w4 hB4
              go_wp2_with fail
              refine (HWI.out w4 hB4).mono ?_
              rintro e w5 ⟨rfl, rfl⟩
              go_wp2_with fail
              go_ret
              exact HF.out _ _ hB4
          · cases hu : lget u (S.ino t').dir with
            | none => exact rename_newF h hG hr hT hm h1 g1 g2 h2 h3 hk hu
            | some old =>
              obtain ⟨_, _, J, rfl, _⟩ := hG.1.lead hu
              by_cases e : J = I
              · subst e; exact rename_sameF h hG hr hT hm h1 g1 g2 h2 h3 hk hu
              · by_cases he : replE S I J = 0
                · exact rename_overF h hG hr hT hm h1 g1 g2 h2 h3 hk hu e he
                · exact rename_barsF h hG hr hT hm h1 g1 g2 h2 h3 hk hu e he
        · have hv := Lib.hid (show S.rename (D : Int) s (t' : Int) u = (nameE u, S) by unfold BS.rename; rw [if_neg (by omega), g2, if_neg (by simp), if_neg (by omega), if_pos h3])
          rw [hv.out]
          rw [hn] at HN
          have HC := Lib.hid (fun w2 (hb : Below w.heap.size w w2) => changed_any (h.below hb) hG.z0 (t' : Int))
          rw [listV_ok h2] at HC
          have HNN := Lib.hid (fun w2 => newName_any u w2 hm)
          unfold RetI at HNN
          generalize nameE u = x at *
          have hx : (x != 0) = true := by simpa using h3
          generalize (pl D).nd = N at *
          generalize (pl t').nd = U at *
          clear h hG hr hT hn hv g1 g2 h1 h2 h3
          go_enter Tryz.func48, Tryz.ntmps48
          go_wp2_with fail
          refine HN.out.mono ?_
          rintro e w2 ⟨rfl, hb⟩
          have HC2 := Lib.hid (HC.out _ hb)
          go_wp2_with fail
          refine HC2.out.mono ?_
          rintro e w3 ⟨rfl, rfl⟩
          go_wp2_with fail
          refine (HNN.out _).mono ?_
          rintro e w4 ⟨rfl, hb4⟩
          go_wp2_with fail
          go_ret
          exact HF.out _ _ (dn.below_step hb hb4)
      · have hv := Lib.hid (show S.rename (D : Int) s t u = (S.dirE t true, S) by unfold BS.rename; rw [if_neg (by omega), g2, if_neg (by simp), if_pos h2])
        rw [hv.out]
        rw [hn] at HN
        have HC := Lib.hid (fun w2 (hb : Below w.heap.size w w2) => changed_any (h.below hb) hG.z0 t)
        rw [listV_bad h2] at HC
        generalize S.dirE t true = x at *
        have hx : (x != 0) = true := by simpa using h2
        generalize (pl D).nd = N at *
        clear h hG hr hT hn hv g1 g2 h1 h2
        go_enter Tryz.func48, Tryz.ntmps48
        go_wp2_with fail
        refine HN.out.mono ?_
        rintro e w2 ⟨rfl, hb⟩
        have HC2 := Lib.hid (HC.out _ hb)
        go_wp2_with fail
        refine HC2.out.mono ?_
        rintro e w3 ⟨rfl, rfl⟩
        go_wp2_with fail
        go_ret
        exact HF.out _ _ hb
  · have hv := Lib.hid (show S.rename d s t u = (S.dirE d true, S) by unfold BS.rename; rw [if_pos h1])
    have hn : namV S pl d s = .tuple #[.pointer none, .int .i64 0, .int .i64 (S.dirE d true)] := by unfold namV; rw [if_pos h1]
    rw [hn] at HN
    rw [hv.out]
    generalize S.dirE d true = x at *
    have hx : (x != 0) = true := by simpa using h1
    clear h hG hn hv h1
    go_enter Tryz.func48, Tryz.ntmps48
    go_wp2_with fail
    refine HN.out.mono ?_
    rintro e w2 ⟨rfl, hb⟩
    go_wp2_with fail
    go_ret
    exact HF.out _ _ hb
end
end Go.Proofs.YtnnaoldpacbagaaGreat.cb
end
