/- 'Rename'. 'New'. -/
import Derived.Test.YtlelnpckbcpkkaaGreatZj
namespace Go.Proofs.YtlelnpckbcpkkaaGreat.cb
open Go.RowKit
open Go.Proofs.YtlelnpckbcpkkaaGreat.qu (KN ins QL)
open Go.Proofs.YtlelnpckbcpkkaaGreat.dn (Du En lget lset ldel getV nerr dotB Sorted RetV serr lsetE)
open Go.Proofs.YtlelnpckbcpkkaaGreat.bl (AB Bod BodC StoC Only Pq cut cutR wr WR)
open Go.Proofs.YtlelnpckbcpkkaaGreat.br
set_option linter.unusedVariables false
set_option linter.unusedSimpArgs false

section
variable {w w' : World} {P lo st qb room T : Nat} {qo : Option Nat} {pl : Nat → Pl} {tag : Nat → Nat} {S : BS} {L : List KN}
/-- What is done from the name's going on. -/
def TailE (w : World) (P lo st qb : Nat) (pl : Nat → Pl) (tag : Nat → Nat) (S1 : BS) (room T0 D t I : Nat) (s u : ByteArray) (k par : Int) (w1 : World) : Prop :=
  ∃ C, w1.cell? ⟨(pl D).nd, 5, none⟩ = some (Pq C) ∧ Calls Tryz.prog 86 #[Pq C, .string s] w1 (fun e w2 => ∃ v, e = .returned v ∧ ∃ C2, w2.cell? ⟨(pl t).nd, 5, none⟩ = some (Pq C2) ∧ Calls Tryz.prog 78 #[Pq C2, .string u, .int .i64 (I : Int)] w2 (fun e w3 => e = .returned (.int .i64 0) ∧
      w3.cell? ⟨(pl I).nd, 0, none⟩ = some (.int .i64 k) ∧ w3.cell? ⟨(pl I).nd, 6, none⟩ = some (.int .i64 par) ∧ w3.frozen? ⟨(pl I).nd, 6, none⟩ = false ∧
      (k ≠ 2 → RetG w P lo st qb tag (.int .i64 0) (S1.move (D : Int) s (t : Int) u (I : Int)) room T0 (.returned (.int .i64 0)) w3) ∧
      (k = 2 → RetG w P lo st qb tag (.int .i64 0) (S1.move (D : Int) s (t : Int) u (I : Int)) room T0 (.returned (.int .i64 0)) (w3.setCell ⟨(pl I).nd, 6, none⟩ (.int .i64 (t : Int))))))
theorem tail_any {w1 : World} {qo1 : Option Nat} {pl1 : Nat → Pl} {tag1 : Nat → Nat} {D t I T0 : Nat} {s u : ByteArray} (hG : br.Good S room) (hT : T ≤ T0 + 1) (hD : (S.ino D).kind = 2) (ht : (S.ino t).kind = 2) (hn : (S.ino I).kind ≠ 0) (h1 : I ≠ D) (h2 : I ≠ t) (hu : nerr u.data.toList = 0 ∧ dotB u = false) (hm : u.size ≤ 9223372036854775807)
    (h : CB w1 P lo st qb qo1 pl1 tag1 S room (freeL S) T) (hs : Stp w w1 tag tag1) (hp : ∀ j, (S.ino j).kind ≠ 0 → (pl1 j).nd = (pl j).nd) : TailE w P lo st qb pl tag S room T0 D t I s u (S.ino I).kind (S.ino I).parent w1 := by
  have dn' := hG.1.num (k := D) (by rw [hD]; decide)
  have c5 := (h.ino D dn'.2 (by rw [hD]; decide)).c5d hD
  rw [hp D (by rw [hD]; decide)] at c5
  refine ⟨_, c5, (h.ddel dn'.2 hD (hG.1.sorted D) (hG.1.dirLen D) s).mono ?_⟩
  rintro e w2 ⟨rfl, qo2, pl2, tag2, k1, k2, k3⟩
  change CB w2 P lo st qb qo2 pl2 tag2 (delD S D s) room (freeL S) T at k1
  refine ⟨_, rfl, move_set (w := w) (tag := tag) (pl := pl) hG hT ht hn h1 h2 hu hm k1 (hs.trans k2) fun j hj => (k3 j hj).trans (hp j ?_)⟩
  rw [← delD_kind S D s j]; exact hj
/-- What was called so is gone. -/
theorem drop_facts {D t I J : Nat} {s u : ByteArray} (hG : br.Good S room) (hg : lget s (S.ino D).dir = some (I : Int)) (hu : lget u (S.ino t).dir = some (J : Int)) (hJI : J ≠ I) (h2 : I ≠ t) (hd : (S.ino J).kind = 2 → (S.ino J).dir = []) :
    br.Good (S.drop (t : Int) u (J : Int)) room ∧ ((S.drop (t : Int) u (J : Int)).ino D).kind = 2 ∧ ((S.drop (t : Int) u (J : Int)).ino t).kind = 2 ∧ (S.drop (t : Int) u (J : Int)).ino I = S.ino I := by
  obtain ⟨g, J', hJ', hne, d⟩ := hG.drop hu (by rw [at_nat]; exact hd)
  obtain rfl : J = J' := by omega
  have kD := (hG.1.lead hg).1
  have kt := (hG.1.lead hu).1
  have hJD : J ≠ D := fun e => by
    subst e
    rw [hd kD] at hg; cases hg
  refine ⟨g, ?_, ?_, d.oth I h2 (fun e => hJI e.symm)⟩
  · by_cases e : D = t
    · subst e; rw [d.dir]; exact kD
    · rw [d.oth D e (fun e => hJD e.symm)]; exact kD
  · rw [d.dir]; exact kt
theorem rename_pre {D t I : Nat} {s u : ByteArray} (h1 : S.dirE (D : Int) true = 0) (g : S.get (D : Int) s = ((I : Int), 0)) (h2 : S.dirE (t : Int) true = 0) (h3 : nameE u = 0) (hb : (S.ino I).kind = 2 → S.below (t : Int) (I : Int) 300 = false) :
    S.rename (D : Int) s (t : Int) u = match lget u (S.ino t).dir with
      | none => (0, S.move (D : Int) s (t : Int) u (I : Int))
      | some old => if old = (I : Int) then (0, S) else if (S.at old).kind = 2 ∧ (S.ino I).kind ≠ 2 then (21, S) else if (S.at old).kind ≠ 2 ∧ (S.ino I).kind = 2 then (20, S) else if (S.at old).kind = 2 ∧ (S.at old).dir ≠ [] then (39, S) else (0, (S.drop (t : Int) u old).move (D : Int) s (t : Int) u (I : Int)) := by
  unfold BS.rename
  rw [if_neg (by omega), g, if_neg (by simp), if_neg (by omega), if_neg (by omega)]
  dsimp only
  rw [at_nat, if_neg (fun e => by rw [hb e.1] at e; exact absurd e.2 (by decide)), at_nat]
  rfl
theorem rename_repl {D t I J : Nat} {s u : ByteArray} (h1 : S.dirE (D : Int) true = 0) (g : S.get (D : Int) s = ((I : Int), 0)) (h2 : S.dirE (t : Int) true = 0) (h3 : nameE u = 0) (hb : (S.ino I).kind = 2 → S.below (t : Int) (I : Int) 300 = false) (hu : lget u (S.ino t).dir = some (J : Int)) (hJI : J ≠ I) :
    S.rename (D : Int) s (t : Int) u = if replE S I J = 0 then (0, (S.drop (t : Int) u (J : Int)).move (D : Int) s (t : Int) u (I : Int)) else (replE S I J, S) := by
  rw [rename_pre h1 g h2 h3 hb, hu]
  dsimp only
  rw [if_neg (by omega), at_nat]
  unfold replE
  split
  · rfl
  · split
    · rfl
    · split <;> rfl
theorem repl_dir {I J : Nat} (h : replE S I J = 0) : (S.ino J).kind = 2 → (S.ino J).dir = [] := by
  intro hk
  unfold replE at h
  split at h
  · cases h
  · split at h
    · cases h
    · split at h
      · cases h
      · rename_i h3
        by_cases e : (S.ino J).dir = []
        · exact e
        · exact absurd ⟨hk, e⟩ h3
set_option maxRecDepth 100000 in
set_option maxHeartbeats 1000000 in
theorem rename_newD (h : CB w P lo st qb qo pl tag S room (freeL S) T) (hG : br.Good S room) (hr : room ≤ 65536) (hT : T ≤ 900000) {D t I : Nat} {s u : ByteArray} (hm : u.size ≤ 9223372036854775807) (h1 : S.dirE (D : Int) true = 0) (hg : lget s (S.ino D).dir = some (I : Int)) (gg : S.get (D : Int) s = ((I : Int), 0)) (h2 : S.dirE (t : Int) true = 0) (h3 : nameE u = 0) (hk : (S.ino I).kind = 2) (hb : S.below (t : Int) (I : Int) 300 = false) (hu : lget u (S.ino t).dir = none) : Calls Tryz.prog 32 #[Pq P, .int .i64 (D : Int), .string s, .int .i64 (t : Int), .string u] w (RetG w P lo st qb tag (.int .i64 (S.rename (D : Int) s (t : Int) u).1) (S.rename (D : Int) s (t : Int) u).2 room T) := by
  obtain ⟨D', hD', d1, d2, hDk, _⟩ := dirE_ok h1
  obtain rfl : D = D' := by omega
  obtain ⟨t', ht', t1, t2, htk, htl⟩ := dirE_ok h2
  obtain rfl : t = t' := by omega
  obtain ⟨_, _, I', hI', i1, i2, iroot, hli, hni⟩ := hG.1.lead hg
  obtain rfl : I = I' := by omega
  have hID : I ≠ D := fun e => hG.1.own hG.2 (D := D) (s := s) (by rw [hg, e])
  have HN := Lib.hid (named_any h hG (D : Int) s)
  unfold RetW at HN
  have hn : namV S pl (D : Int) s = .tuple #[Pq (pl D).nd, .int .i64 (I : Int), .int .i64 0] := by unfold namV; rw [if_neg (by omega), gg]; rfl
  rw [hn] at HN
  have HC := Lib.hid (fun w2 (hb : Below w.heap.size w w2) => changed_any (h.below hb) hG.z0 (t : Int))
  rw [listV_ok h2] at HC
  have HNN := Lib.hid (fun w2 => newName_any u w2 hm)
  unfold RetI at HNN
  rw [h3] at HNN
  have HSI := Lib.hid (fun w2 (hb : Below w.heap.size w w2) => (h.below hb).slot i2 hni)
  have HKI := Lib.hid (fun w2 (hb : Below w.heap.size w w2) => ((h.below hb).ino I i2 hni).c0)
  have HT5 := Lib.hid (fun w2 (hb : Below w.heap.size w w2) => ((h.below hb).ino t t2 (by rw [htk]; decide)).c5d htk)
  have HGT := Lib.hid (fun w2 (hb : Below w.heap.size w w2) => (h.below hb).get hG htk u)
  have HF := Lib.hid (fun w2 v hb => RetG.same (w' := w2) h v hb)
  have hnu := nameE_ok h3
  have hIt : I ≠ t := fun e => by subst e; rw [below_self] at hb; cases hb
  have HWI := Lib.hid (fun w2 (hb : Below w.heap.size w w2) => within_any (h.below hb) hG iroot htk (htl rfl))
  rw [hb] at HWI
  rw [hk] at HKI
  have hv := Lib.hid (show S.rename (D : Int) s (t : Int) u = (0, S.move (D : Int) s (t : Int) u (I : Int)) by rw [rename_pre h1 gg h2 h3 (fun _ => hb), hu])
  rw [hv.out]
  have hgv : getV u (S.ino t).dir = .tuple #[.int .i64 0, .int .i64 2] := by unfold getV; rw [hu]
  rw [hgv] at HGT
  have HTL := Lib.hid (fun w2 (hb : Below w.heap.size w w2) => tail_any (w := w) (T0 := T) (s := s) (u := u) hG (Nat.le_succ T) hDk htk hni hID hIt hnu hm (h.below hb) (Stp.below hb) (fun _ _ => rfl))
  unfold TailE at HTL
  rw [hk] at HTL
  generalize (pl D).nd = N at *
  generalize (pl I).nd = M at *
  generalize (pl t).nd = U at *
  generalize (pl t).di = E at *
  clear h hG hr hT hn hgv hv hg gg h1 h2 h3 HF hu hk hb
  go_enter Tryz.func32, Tryz.ntmps32
  go_wp2_with fail
  refine HN.out.mono ?_
  rintro e w2 ⟨rfl, hb⟩
  have HC2 := Lib.hid (HC.out _ hb)
  go_wp2_with fail
  refine HC2.out.mono ?_
  rintro e w3 ⟨rfl, rfl⟩
  go_wp2_with fail
  refine (HNN.out _).mono ?_
  rintro e w4 ⟨rfl, hb4⟩
  have hB4 := dn.below_step hb hb4
  have HB4 := Lib.hid hB4
  have cs := HSI.out w4 hB4
  have c0 := HKI.out w4 hB4
  have ct := HT5.out w4 hB4
  clear hb hb4 HN HC HC2 HNN hB4
  go_wp2_with fail
  refine (HWI.out w4 HB4.out).mono ?_
  rintro e w4 ⟨rfl, rfl⟩
  clear HWI
  have HG2 := Lib.hid (HGT.out w4 HB4.out)
  clear HGT
  go_wp2_with fail
  refine HG2.out.mono ?_
  rintro e w6 ⟨rfl, hb6⟩
  have hB6 := dn.below_step HB4.out hb6
  have HB6 := Lib.hid hB6
  clear HG2 cs c0 ct HB4 hb6
  have cs := HSI.out w6 hB6
  have c0 := HKI.out w6 hB6
  obtain ⟨C, c5, hq⟩ := HTL.out w6 hB6
  have HQ := Lib.hid hq
  clear hq
  go_wp2_with fail
  refine HQ.out.mono ?_
  rintro e w7 ⟨v7, rfl, C2, c52, hq2⟩
  have HQ2 := Lib.hid hq2
  clear hq2 HQ c5
  go_wp2_with fail
  refine HQ2.out.mono ?_
  rintro e w8 ⟨rfl, a0, a6, f6, r1, r2⟩
  have HR1 := Lib.hid r1
  have HR2 := Lib.hid r2
  clear r1 r2 HQ2 c52
  go_wp2_with fail
  go_ret
  exact HR2.out (by trivial)
set_option maxRecDepth 100000 in
set_option maxHeartbeats 1000000 in
theorem rename_sameD (h : CB w P lo st qb qo pl tag S room (freeL S) T) (hG : br.Good S room) (hr : room ≤ 65536) (hT : T ≤ 900000) {D t I : Nat} {s u : ByteArray} (hm : u.size ≤ 9223372036854775807) (h1 : S.dirE (D : Int) true = 0) (hg : lget s (S.ino D).dir = some (I : Int)) (gg : S.get (D : Int) s = ((I : Int), 0)) (h2 : S.dirE (t : Int) true = 0) (h3 : nameE u = 0) (hk : (S.ino I).kind = 2) (hb : S.below (t : Int) (I : Int) 300 = false) (hu : lget u (S.ino t).dir = some (I : Int)) : Calls Tryz.prog 32 #[Pq P, .int .i64 (D : Int), .string s, .int .i64 (t : Int), .string u] w (RetG w P lo st qb tag (.int .i64 (S.rename (D : Int) s (t : Int) u).1) (S.rename (D : Int) s (t : Int) u).2 room T) := by
  obtain ⟨D', hD', d1, d2, hDk, _⟩ := dirE_ok h1
  obtain rfl : D = D' := by omega
  obtain ⟨t', ht', t1, t2, htk, htl⟩ := dirE_ok h2
  obtain rfl : t = t' := by omega
  obtain ⟨_, _, I', hI', i1, i2, iroot, hli, hni⟩ := hG.1.lead hg
  obtain rfl : I = I' := by omega
  have hID : I ≠ D := fun e => hG.1.own hG.2 (D := D) (s := s) (by rw [hg, e])
  have HN := Lib.hid (named_any h hG (D : Int) s)
  unfold RetW at HN
  have hn : namV S pl (D : Int) s = .tuple #[Pq (pl D).nd, .int .i64 (I : Int), .int .i64 0] := by unfold namV; rw [if_neg (by omega), gg]; rfl
  rw [hn] at HN
  have HC := Lib.hid (fun w2 (hb : Below w.heap.size w w2) => changed_any (h.below hb) hG.z0 (t : Int))
  rw [listV_ok h2] at HC
  have HNN := Lib.hid (fun w2 => newName_any u w2 hm)
  unfold RetI at HNN
  rw [h3] at HNN
  have HSI := Lib.hid (fun w2 (hb : Below w.heap.size w w2) => (h.below hb).slot i2 hni)
  have HKI := Lib.hid (fun w2 (hb : Below w.heap.size w w2) => ((h.below hb).ino I i2 hni).c0)
  have HT5 := Lib.hid (fun w2 (hb : Below w.heap.size w w2) => ((h.below hb).ino t t2 (by rw [htk]; decide)).c5d htk)
  have HGT := Lib.hid (fun w2 (hb : Below w.heap.size w w2) => (h.below hb).get hG htk u)
  have HF := Lib.hid (fun w2 v hb => RetG.same (w' := w2) h v hb)
  have hnu := nameE_ok h3
  have hIt : I ≠ t := fun e => by subst e; rw [below_self] at hb; cases hb
  have HWI := Lib.hid (fun w2 (hb : Below w.heap.size w w2) => within_any (h.below hb) hG iroot htk (htl rfl))
  rw [hb] at HWI
  rw [hk] at HKI
  have hv := Lib.hid (show S.rename (D : Int) s (t : Int) u = (0, S) by rw [rename_pre h1 gg h2 h3 (fun _ => hb), hu]; dsimp only; rw [if_pos rfl])
  rw [hv.out]
  have hgv : getV u (S.ino t).dir = .tuple #[.int .i64 (I : Int), .int .i64 0] := by unfold getV; rw [hu]
  rw [hgv] at HGT
  generalize (pl D).nd = N at *
  generalize (pl I).nd = M at *
  generalize (pl t).nd = U at *
  generalize (pl t).di = E at *
  clear h hG hr hT hn hgv hv hg gg h1 h2 h3 hu hk hb
  go_enter Tryz.func32, Tryz.ntmps32
  go_wp2_with fail
  refine HN.out.mono ?_
  rintro e w2 ⟨rfl, hb⟩
  have HC2 := Lib.hid (HC.out _ hb)
  go_wp2_with fail
  refine HC2.out.mono ?_
  rintro e w3 ⟨rfl, rfl⟩
  go_wp2_with fail
  refine (HNN.out _).mono ?_
  rintro e w4 ⟨rfl, hb4⟩
  have hB4 := dn.below_step hb hb4
  have HB4 := Lib.hid hB4
  have cs := HSI.out w4 hB4
  have c0 := HKI.out w4 hB4
  have ct := HT5.out w4 hB4
  clear hb hb4 HN HC HC2 HNN hB4
  go_wp2_with fail
  refine (HWI.out w4 HB4.out).mono ?_
  rintro e w4 ⟨rfl, rfl⟩
  clear HWI
  have HG2 := Lib.hid (HGT.out w4 HB4.out)
  clear HGT
  go_wp2_with fail
  refine HG2.out.mono ?_
  rintro e w6 ⟨rfl, hb6⟩
  have hB6 := dn.below_step HB4.out hb6
  have HB6 := Lib.hid hB6
  clear HG2 cs c0 ct HB4 hb6
  have cs := HSI.out w6 hB6
  have c0 := HKI.out w6 hB6
  go_wp2_with fail
  go_ret
  exact HF.out _ _ hB6
set_option maxRecDepth 100000 in
set_option maxHeartbeats 1000000 in
theorem rename_barsD (h : CB w P lo st qb qo pl tag S room (freeL S) T) (hG : br.Good S room) (hr : room ≤ 65536) (hT : T ≤ 900000) {D t I : Nat} {s u : ByteArray} (hm : u.size ≤ 9223372036854775807) (h1 : S.dirE (D : Int) true = 0) (hg : lget s (S.ino D).dir = some (I : Int)) (gg : S.get (D : Int) s = ((I : Int), 0)) (h2 : S.dirE (t : Int) true = 0) (h3 : nameE u = 0) (hk : (S.ino I).kind = 2) (hb : S.below (t : Int) (I : Int) 300 = false) {J : Nat} (hu : lget u (S.ino t).dir = some (J : Int)) (hJI : J ≠ I) (he : replE S I J ≠ 0) : Calls Tryz.prog 32 #[Pq P, .int .i64 (D : Int), .string s, .int .i64 (t : Int), .string u] w (RetG w P lo st qb tag (.int .i64 (S.rename (D : Int) s (t : Int) u).1) (S.rename (D : Int) s (t : Int) u).2 room T) := by
  obtain ⟨D', hD', d1, d2, hDk, _⟩ := dirE_ok h1
  obtain rfl : D = D' := by omega
  obtain ⟨t', ht', t1, t2, htk, htl⟩ := dirE_ok h2
  obtain rfl : t = t' := by omega
  obtain ⟨_, _, I', hI', i1, i2, iroot, hli, hni⟩ := hG.1.lead hg
  obtain rfl : I = I' := by omega
  have hID : I ≠ D := fun e => hG.1.own hG.2 (D := D) (s := s) (by rw [hg, e])
  have HN := Lib.hid (named_any h hG (D : Int) s)
  unfold RetW at HN
  have hn : namV S pl (D : Int) s = .tuple #[Pq (pl D).nd, .int .i64 (I : Int), .int .i64 0] := by unfold namV; rw [if_neg (by omega), gg]; rfl
  rw [hn] at HN
  have HC := Lib.hid (fun w2 (hb : Below w.heap.size w w2) => changed_any (h.below hb) hG.z0 (t : Int))
  rw [listV_ok h2] at HC
  have HNN := Lib.hid (fun w2 => newName_any u w2 hm)
  unfold RetI at HNN
  rw [h3] at HNN
  have HSI := Lib.hid (fun w2 (hb : Below w.heap.size w w2) => (h.below hb).slot i2 hni)
  have HKI := Lib.hid (fun w2 (hb : Below w.heap.size w w2) => ((h.below hb).ino I i2 hni).c0)
  have HT5 := Lib.hid (fun w2 (hb : Below w.heap.size w w2) => ((h.below hb).ino t t2 (by rw [htk]; decide)).c5d htk)
  have HGT := Lib.hid (fun w2 (hb : Below w.heap.size w w2) => (h.below hb).get hG htk u)
  have HF := Lib.hid (fun w2 v hb => RetG.same (w' := w2) h v hb)
  have hnu := nameE_ok h3
  have hIt : I ≠ t := fun e => by subst e; rw [below_self] at hb; cases hb
  have HWI := Lib.hid (fun w2 (hb : Below w.heap.size w w2) => within_any (h.below hb) hG iroot htk (htl rfl))
  rw [hb] at HWI
  rw [hk] at HKI
  obtain ⟨_, _, J', hJ', j1, j2, _, hlj, hnj⟩ := hG.1.lead hu
  obtain rfl : J = J' := by omega
  have hv := Lib.hid ((rename_repl h1 gg h2 h3 (fun _ => hb) hu hJI).trans (if_neg he))
  rw [hv.out]
  have hgv : getV u (S.ino t).dir = .tuple #[.int .i64 (J : Int), .int .i64 0] := by unfold getV; rw [hu]
  rw [hgv] at HGT
  have HSJ := Lib.hid (fun w2 (hb : Below w.heap.size w w2) => (h.below hb).slot j2 hnj)
  have HRP := Lib.hid (fun w2 (hb : Below w.heap.size w w2) => replaces_any (h.below hb) hG hni hnj)
  have q1 : ((J : Int) == (I : Int)) = false := by simp; omega
  generalize replE S I J = x at *
  have qx : (x != 0) = true := by simpa using he
  generalize (pl D).nd = N at *
  generalize (pl I).nd = M at *
  generalize (pl t).nd = U at *
  generalize (pl t).di = E at *
  generalize (pl J).nd = V at *
  clear h hG hr hT hn hgv hv hg gg h1 h2 h3 hu hk hb
  go_enter Tryz.func32, Tryz.ntmps32
  go_wp2_with fail
  refine HN.out.mono ?_
  rintro e w2 ⟨rfl, hb⟩
  have HC2 := Lib.hid (HC.out _ hb)
  go_wp2_with fail
  refine HC2.out.mono ?_
  rintro e w3 ⟨rfl, rfl⟩
  go_wp2_with fail
  refine (HNN.out _).mono ?_
  rintro e w4 ⟨rfl, hb4⟩
  have hB4 := dn.below_step hb hb4
  have HB4 := Lib.hid hB4
  have cs := HSI.out w4 hB4
  have c0 := HKI.out w4 hB4
  have ct := HT5.out w4 hB4
  clear hb hb4 HN HC HC2 HNN hB4
  go_wp2_with fail
  refine (HWI.out w4 HB4.out).mono ?_
  rintro e w4 ⟨rfl, rfl⟩
  clear HWI
  have HG2 := Lib.hid (HGT.out w4 HB4.out)
  clear HGT
  go_wp2_with fail
  refine HG2.out.mono ?_
  rintro e w6 ⟨rfl, hb6⟩
  have hB6 := dn.below_step HB4.out hb6
  have HB6 := Lib.hid hB6
  clear HG2 cs c0 ct HB4 hb6
  have cs := HSI.out w6 hB6
  have c0 := HKI.out w6 hB6
  have cj := HSJ.out w6 hB6
  have HRP2 := Lib.hid (HRP.out w6 hB6)
  clear HRP HSJ
  go_wp2_with fail
  refine HRP2.out.mono ?_
  rintro e w7 ⟨rfl, rfl⟩
  go_wp2_with fail
  go_ret
  exact HF.out _ _ hB6
set_option maxRecDepth 100000 in
set_option maxHeartbeats 1000000 in
theorem rename_overD (h : CB w P lo st qb qo pl tag S room (freeL S) T) (hG : br.Good S room) (hr : room ≤ 65536) (hT : T ≤ 900000) {D t I : Nat} {s u : ByteArray} (hm : u.size ≤ 9223372036854775807) (h1 : S.dirE (D : Int) true = 0) (hg : lget s (S.ino D).dir = some (I : Int)) (gg : S.get (D : Int) s = ((I : Int), 0)) (h2 : S.dirE (t : Int) true = 0) (h3 : nameE u = 0) (hk : (S.ino I).kind = 2) (hb : S.below (t : Int) (I : Int) 300 = false) {J : Nat} (hu : lget u (S.ino t).dir = some (J : Int)) (hJI : J ≠ I) (he : replE S I J = 0) : Calls Tryz.prog 32 #[Pq P, .int .i64 (D : Int), .string s, .int .i64 (t : Int), .string u] w (RetG w P lo st qb tag (.int .i64 (S.rename (D : Int) s (t : Int) u).1) (S.rename (D : Int) s (t : Int) u).2 room T) := by
  obtain ⟨D', hD', d1, d2, hDk, _⟩ := dirE_ok h1
  obtain rfl : D = D' := by omega
  obtain ⟨t', ht', t1, t2, htk, htl⟩ := dirE_ok h2
  obtain rfl : t = t' := by omega
  obtain ⟨_, _, I', hI', i1, i2, iroot, hli, hni⟩ := hG.1.lead hg
  obtain rfl : I = I' := by omega
  have hID : I ≠ D := fun e => hG.1.own hG.2 (D := D) (s := s) (by rw [hg, e])
  have HN := Lib.hid (named_any h hG (D : Int) s)
  unfold RetW at HN
  have hn : namV S pl (D : Int) s = .tuple #[Pq (pl D).nd, .int .i64 (I : Int), .int .i64 0] := by unfold namV; rw [if_neg (by omega), gg]; rfl
  rw [hn] at HN
  have HC := Lib.hid (fun w2 (hb : Below w.heap.size w w2) => changed_any (h.below hb) hG.z0 (t : Int))
  rw [listV_ok h2] at HC
  have HNN := Lib.hid (fun w2 => newName_any u w2 hm)
  unfold RetI at HNN
  rw [h3] at HNN
  have HSI := Lib.hid (fun w2 (hb : Below w.heap.size w w2) => (h.below hb).slot i2 hni)
  have HKI := Lib.hid (fun w2 (hb : Below w.heap.size w w2) => ((h.below hb).ino I i2 hni).c0)
  have HT5 := Lib.hid (fun w2 (hb : Below w.heap.size w w2) => ((h.below hb).ino t t2 (by rw [htk]; decide)).c5d htk)
  have HGT := Lib.hid (fun w2 (hb : Below w.heap.size w w2) => (h.below hb).get hG htk u)
  have HF := Lib.hid (fun w2 v hb => RetG.same (w' := w2) h v hb)
  have hnu := nameE_ok h3
  have hIt : I ≠ t := fun e => by subst e; rw [below_self] at hb; cases hb
  have HWI := Lib.hid (fun w2 (hb : Below w.heap.size w w2) => within_any (h.below hb) hG iroot htk (htl rfl))
  rw [hb] at HWI
  rw [hk] at HKI
  obtain ⟨_, _, J', hJ', j1, j2, _, hlj, hnj⟩ := hG.1.lead hu
  obtain rfl : J = J' := by omega
  have hv := Lib.hid ((rename_repl h1 gg h2 h3 (fun _ => hb) hu hJI).trans (if_pos he))
  rw [hv.out]
  have hgv : getV u (S.ino t).dir = .tuple #[.int .i64 (J : Int), .int .i64 0] := by unfold getV; rw [hu]
  rw [hgv] at HGT
  have HSJ := Lib.hid (fun w2 (hb : Below w.heap.size w w2) => (h.below hb).slot j2 hnj)
  have HRP := Lib.hid (fun w2 (hb : Below w.heap.size w w2) => replaces_any (h.below hb) hG hni hnj)
  have q1 : ((J : Int) == (I : Int)) = false := by simp; omega
  rw [he] at HRP
  have HUN := Lib.hid (fun w2 (hb : Below w.heap.size w w2) => unname_any (h.below hb) hG hr hT hu)
  obtain ⟨f1, f2, f3, f4⟩ := drop_facts hG hg hu hJI hIt (repl_dir he)
  have HTL := Lib.hid (fun w2 w7 (hb : Below w.heap.size w w2) (hx : NxF w2 w7 P lo st qb pl tag (S.drop (t : Int) u (J : Int)) room T) => (show TailE w P lo st qb pl tag (S.drop (t : Int) u (J : Int)) room T D t I s u (S.ino I).kind (S.ino I).parent w7 from by
    obtain ⟨T', hT', qo', pl', tag', k1, k2, k3⟩ := hx
    have := tail_any (w := w) (pl := pl) (tag := tag) (T0 := T) (s := s) (u := u) (I := I) f1 hT' f2 f3 (by rw [f4]; exact hni) hID hIt hnu hm k1 ((Stp.below hb).trans k2) k3
    rw [f4] at this; exact this))
  unfold TailE at HTL
  clear f1 f2 f3 f4
  rw [hk] at HTL
  generalize (pl D).nd = N at *
  generalize (pl I).nd = M at *
  generalize (pl t).nd = U at *
  generalize (pl t).di = E at *
  generalize (pl J).nd = V at *
  clear h hG hr hT hn hgv hv hg gg h1 h2 h3 HF hu hk he hb
  go_enter Tryz.func32, Tryz.ntmps32
  go_wp2_with fail
  refine HN.out.mono ?_
  rintro e w2 ⟨rfl, hb⟩
  have HC2 := Lib.hid (HC.out _ hb)
  go_wp2_with fail
  refine HC2.out.mono ?_
  rintro e w3 ⟨rfl, rfl⟩
  go_wp2_with fail
  refine (HNN.out _).mono ?_
  rintro e w4 ⟨rfl, hb4⟩
  have hB4 := dn.below_step hb hb4
  have HB4 := Lib.hid hB4
  have cs := HSI.out w4 hB4
  have c0 := HKI.out w4 hB4
  have ct := HT5.out w4 hB4
  clear hb hb4 HN HC HC2 HNN hB4
  go_wp2_with fail
  refine (HWI.out w4 HB4.out).mono ?_
  rintro e w4 ⟨rfl, rfl⟩
  clear HWI
  have HG2 := Lib.hid (HGT.out w4 HB4.out)
  clear HGT
  go_wp2_with fail
  refine HG2.out.mono ?_
  rintro e w6 ⟨rfl, hb6⟩
  have hB6 := dn.below_step HB4.out hb6
  have HB6 := Lib.hid hB6
  clear HG2 cs c0 ct HB4 hb6
  have cs := HSI.out w6 hB6
  have c0 := HKI.out w6 hB6
  have cj := HSJ.out w6 hB6
  have HRP2 := Lib.hid (HRP.out w6 hB6)
  have HU2 := Lib.hid (HUN.out w6 hB6)
  clear HRP HSJ HUN hB6
  go_wp2_with fail
  refine HRP2.out.mono ?_
  rintro e w6 ⟨rfl, rfl⟩
  go_wp2_with fail
  refine HU2.out.mono ?_
  rintro e w9 ⟨rfl, hx⟩
  clear cs c0 cj HU2 HRP2
  obtain ⟨C, c5, hq⟩ := HTL.out _ w9 HB6.out hx
  have HQ := Lib.hid hq
  clear hq
  go_wp2_with fail
  refine HQ.out.mono ?_
  rintro e w7 ⟨v7, rfl, C2, c52, hq2⟩
  have HQ2 := Lib.hid hq2
  clear hq2 HQ c5
  go_wp2_with fail
  refine HQ2.out.mono ?_
  rintro e w8 ⟨rfl, a0, a6, f6, r1, r2⟩
  have HR1 := Lib.hid r1
  have HR2 := Lib.hid r2
  clear r1 r2 HQ2 c52
  go_wp2_with fail
  go_ret
  exact HR2.out (by trivial)
set_option maxRecDepth 100000 in
set_option maxHeartbeats 1000000 in
theorem rename_newF (h : CB w P lo st qb qo pl tag S room (freeL S) T) (hG : br.Good S room) (hr : room ≤ 65536) (hT : T ≤ 900000) {D t I : Nat} {s u : ByteArray} (hm : u.size ≤ 9223372036854775807) (h1 : S.dirE (D : Int) true = 0) (hg : lget s (S.ino D).dir = some (I : Int)) (gg : S.get (D : Int) s = ((I : Int), 0)) (h2 : S.dirE (t : Int) true = 0) (h3 : nameE u = 0) (hk : (S.ino I).kind ≠ 2) (hu : lget u (S.ino t).dir = none) : Calls Tryz.prog 32 #[Pq P, .int .i64 (D : Int), .string s, .int .i64 (t : Int), .string u] w (RetG w P lo st qb tag (.int .i64 (S.rename (D : Int) s (t : Int) u).1) (S.rename (D : Int) s (t : Int) u).2 room T) := by
  obtain ⟨D', hD', d1, d2, hDk, _⟩ := dirE_ok h1
  obtain rfl : D = D' := by omega
  obtain ⟨t', ht', t1, t2, htk, htl⟩ := dirE_ok h2
  obtain rfl : t = t' := by omega
  obtain ⟨_, _, I', hI', i1, i2, iroot, hli, hni⟩ := hG.1.lead hg
  obtain rfl : I = I' := by omega
  have hID : I ≠ D := fun e => hG.1.own hG.2 (D := D) (s := s) (by rw [hg, e])
  have HN := Lib.hid (named_any h hG (D : Int) s)
  unfold RetW at HN
  have hn : namV S pl (D : Int) s = .tuple #[Pq (pl D).nd, .int .i64 (I : Int), .int .i64 0] := by unfold namV; rw [if_neg (by omega), gg]; rfl
  rw [hn] at HN
  have HC := Lib.hid (fun w2 (hb : Below w.heap.size w w2) => changed_any (h.below hb) hG.z0 (t : Int))
  rw [listV_ok h2] at HC
  have HNN := Lib.hid (fun w2 => newName_any u w2 hm)
  unfold RetI at HNN
  rw [h3] at HNN
  have HSI := Lib.hid (fun w2 (hb : Below w.heap.size w w2) => (h.below hb).slot i2 hni)
  have HKI := Lib.hid (fun w2 (hb : Below w.heap.size w w2) => ((h.below hb).ino I i2 hni).c0)
  have HT5 := Lib.hid (fun w2 (hb : Below w.heap.size w w2) => ((h.below hb).ino t t2 (by rw [htk]; decide)).c5d htk)
  have HGT := Lib.hid (fun w2 (hb : Below w.heap.size w w2) => (h.below hb).get hG htk u)
  have HF := Lib.hid (fun w2 v hb => RetG.same (w' := w2) h v hb)
  have hnu := nameE_ok h3
  have hIt : I ≠ t := fun e => by subst e; exact hk htk
  have hk2 : ((S.ino I).kind == 2) = false := by simpa using hk
  have hv := Lib.hid (show S.rename (D : Int) s (t : Int) u = (0, S.move (D : Int) s (t : Int) u (I : Int)) by rw [rename_pre h1 gg h2 h3 (fun e => absurd e hk), hu])
  rw [hv.out]
  have hgv : getV u (S.ino t).dir = .tuple #[.int .i64 0, .int .i64 2] := by unfold getV; rw [hu]
  rw [hgv] at HGT
  have HTL := Lib.hid (fun w2 (hb : Below w.heap.size w w2) => tail_any (w := w) (T0 := T) (s := s) (u := u) hG (Nat.le_succ T) hDk htk hni hID hIt hnu hm (h.below hb) (Stp.below hb) (fun _ _ => rfl))
  unfold TailE at HTL
  have HKN := Lib.hid hk
  generalize (S.ino I).kind = K at *
  generalize (pl D).nd = N at *
  generalize (pl I).nd = M at *
  generalize (pl t).nd = U at *
  generalize (pl t).di = E at *
  clear h hG hr hT hn hgv hv hg gg h1 h2 h3 HF hu hk
  go_enter Tryz.func32, Tryz.ntmps32
  go_wp2_with fail
  refine HN.out.mono ?_
  rintro e w2 ⟨rfl, hb⟩
  have HC2 := Lib.hid (HC.out _ hb)
  go_wp2_with fail
  refine HC2.out.mono ?_
  rintro e w3 ⟨rfl, rfl⟩
  go_wp2_with fail
  refine (HNN.out _).mono ?_
  rintro e w4 ⟨rfl, hb4⟩
  have hB4 := dn.below_step hb hb4
  have HB4 := Lib.hid hB4
  have cs := HSI.out w4 hB4
  have c0 := HKI.out w4 hB4
  have ct := HT5.out w4 hB4
  clear hb hb4 HN HC HC2 HNN hB4
  have HG2 := Lib.hid (HGT.out w4 HB4.out)
  clear HGT
  go_wp2_with fail
  refine HG2.out.mono ?_
  rintro e w6 ⟨rfl, hb6⟩
  have hB6 := dn.below_step HB4.out hb6
  have HB6 := Lib.hid hB6
  clear HG2 cs c0 ct HB4 hb6
  have cs := HSI.out w6 hB6
  have c0 := HKI.out w6 hB6
  obtain ⟨C, c5, hq⟩ := HTL.out w6 hB6
  have HQ := Lib.hid hq
  clear hq
  go_wp2_with fail
  refine HQ.out.mono ?_
  rintro e w7 ⟨v7, rfl, C2, c52, hq2⟩
  have HQ2 := Lib.hid hq2
  clear hq2 HQ c5
  go_wp2_with fail
  refine HQ2.out.mono ?_
  rintro e w8 ⟨rfl, a0, a6, f6, r1, r2⟩
  have HR1 := Lib.hid r1
  have HR2 := Lib.hid r2
  clear r1 r2 HQ2 c52
  go_wp2_with fail
  go_ret
  exact HR1.out HKN.out
set_option maxRecDepth 100000 in
set_option maxHeartbeats 1000000 in
theorem rename_sameF (h : CB w P lo st qb qo pl tag S room (freeL S) T) (hG : br.Good S room) (hr : room ≤ 65536) (hT : T ≤ 900000) {D t I : Nat} {s u : ByteArray} (hm : u.size ≤ 9223372036854775807) (h1 : S.dirE (D : Int) true = 0) (hg : lget s (S.ino D).dir = some (I : Int)) (gg : S.get (D : Int) s = ((I : Int), 0)) (h2 : S.dirE (t : Int) true = 0) (h3 : nameE u = 0) (hk : (S.ino I).kind ≠ 2) (hu : lget u (S.ino t).dir = some (I : Int)) : Calls Tryz.prog 32 #[Pq P, .int .i64 (D : Int), .string s, .int .i64 (t : Int), .string u] w (RetG w P lo st qb tag (.int .i64 (S.rename (D : Int) s (t : Int) u).1) (S.rename (D : Int) s (t : Int) u).2 room T) := by
  obtain ⟨D', hD', d1, d2, hDk, _⟩ := dirE_ok h1
  obtain rfl : D = D' := by omega
  obtain ⟨t', ht', t1, t2, htk, htl⟩ := dirE_ok h2
  obtain rfl : t = t' := by omega
  obtain ⟨_, _, I', hI', i1, i2, iroot, hli, hni⟩ := hG.1.lead hg
  obtain rfl : I = I' := by omega
  have hID : I ≠ D := fun e => hG.1.own hG.2 (D := D) (s := s) (by rw [hg, e])
  have HN := Lib.hid (named_any h hG (D : Int) s)
  unfold RetW at HN
  have hn : namV S pl (D : Int) s = .tuple #[Pq (pl D).nd, .int .i64 (I : Int), .int .i64 0] := by unfold namV; rw [if_neg (by omega), gg]; rfl
  rw [hn] at HN
  have HC := Lib.hid (fun w2 (hb : Below w.heap.size w w2) => changed_any (h.below hb) hG.z0 (t : Int))
  rw [listV_ok h2] at HC
  have HNN := Lib.hid (fun w2 => newName_any u w2 hm)
  unfold RetI at HNN
  rw [h3] at HNN
  have HSI := Lib.hid (fun w2 (hb : Below w.heap.size w w2) => (h.below hb).slot i2 hni)
  have HKI := Lib.hid (fun w2 (hb : Below w.heap.size w w2) => ((h.below hb).ino I i2 hni).c0)
  have HT5 := Lib.hid (fun w2 (hb : Below w.heap.size w w2) => ((h.below hb).ino t t2 (by rw [htk]; decide)).c5d htk)
  have HGT := Lib.hid (fun w2 (hb : Below w.heap.size w w2) => (h.below hb).get hG htk u)
  have HF := Lib.hid (fun w2 v hb => RetG.same (w' := w2) h v hb)
  have hnu := nameE_ok h3
  have hIt : I ≠ t := fun e => by subst e; exact hk htk
  have hk2 : ((S.ino I).kind == 2) = false := by simpa using hk
  have hv := Lib.hid (show S.rename (D : Int) s (t : Int) u = (0, S) by rw [rename_pre h1 gg h2 h3 (fun e => absurd e hk), hu]; dsimp only; rw [if_pos rfl])
  rw [hv.out]
  have hgv : getV u (S.ino t).dir = .tuple #[.int .i64 (I : Int), .int .i64 0] := by unfold getV; rw [hu]
  rw [hgv] at HGT
  generalize (S.ino I).kind = K at *
  generalize (pl D).nd = N at *
  generalize (pl I).nd = M at *
  generalize (pl t).nd = U at *
  generalize (pl t).di = E at *
  clear h hG hr hT hn hgv hv hg gg h1 h2 h3 hu hk
  go_enter Tryz.func32, Tryz.ntmps32
  go_wp2_with fail
  refine HN.out.mono ?_
  rintro e w2 ⟨rfl, hb⟩
  have HC2 := Lib.hid (HC.out _ hb)
  go_wp2_with fail
  refine HC2.out.mono ?_
  rintro e w3 ⟨rfl, rfl⟩
  go_wp2_with fail
  refine (HNN.out _).mono ?_
  rintro e w4 ⟨rfl, hb4⟩
  have hB4 := dn.below_step hb hb4
  have HB4 := Lib.hid hB4
  have cs := HSI.out w4 hB4
  have c0 := HKI.out w4 hB4
  have ct := HT5.out w4 hB4
  clear hb hb4 HN HC HC2 HNN hB4
  have HG2 := Lib.hid (HGT.out w4 HB4.out)
  clear HGT
  go_wp2_with fail
  refine HG2.out.mono ?_
  rintro e w6 ⟨rfl, hb6⟩
  have hB6 := dn.below_step HB4.out hb6
  have HB6 := Lib.hid hB6
  clear HG2 cs c0 ct HB4 hb6
  have cs := HSI.out w6 hB6
  have c0 := HKI.out w6 hB6
  go_wp2_with fail
  go_ret
  exact HF.out _ _ hB6
set_option maxRecDepth 100000 in
set_option maxHeartbeats 1000000 in
theorem rename_barsF (h : CB w P lo st qb qo pl tag S room (freeL S) T) (hG : br.Good S room) (hr : room ≤ 65536) (hT : T ≤ 900000) {D t I : Nat} {s u : ByteArray} (hm : u.size ≤ 9223372036854775807) (h1 : S.dirE (D : Int) true = 0) (hg : lget s (S.ino D).dir = some (I : Int)) (gg : S.get (D : Int) s = ((I : Int), 0)) (h2 : S.dirE (t : Int) true = 0) (h3 : nameE u = 0) (hk : (S.ino I).kind ≠ 2) {J : Nat} (hu : lget u (S.ino t).dir = some (J : Int)) (hJI : J ≠ I) (he : replE S I J ≠ 0) : Calls Tryz.prog 32 #[Pq P, .int .i64 (D : Int), .string s, .int .i64 (t : Int), .string u] w (RetG w P lo st qb tag (.int .i64 (S.rename (D : Int) s (t : Int) u).1) (S.rename (D : Int) s (t : Int) u).2 room T) := by
  obtain ⟨D', hD', d1, d2, hDk, _⟩ := dirE_ok h1
  obtain rfl : D = D' := by omega
  obtain ⟨t', ht', t1, t2, htk, htl⟩ := dirE_ok h2
  obtain rfl : t = t' := by omega
  obtain ⟨_, _, I', hI', i1, i2, iroot, hli, hni⟩ := hG.1.lead hg
  obtain rfl : I = I' := by omega
  have hID : I ≠ D := fun e => hG.1.own hG.2 (D := D) (s := s) (by rw [hg, e])
  have HN := Lib.hid (named_any h hG (D : Int) s)
  unfold RetW at HN
  have hn : namV S pl (D : Int) s = .tuple #[Pq (pl D).nd, .int .i64 (I : Int), .int .i64 0] := by unfold namV; rw [if_neg (by omega), gg]; rfl
  rw [hn] at HN
  have HC := Lib.hid (fun w2 (hb : Below w.heap.size w w2) => changed_any (h.below hb) hG.z0 (t : Int))
  rw [listV_ok h2] at HC
  have HNN := Lib.hid (fun w2 => newName_any u w2 hm)
  unfold RetI at HNN
  rw [h3] at HNN
  have HSI := Lib.hid (fun w2 (hb : Below w.heap.size w w2) => (h.below hb).slot i2 hni)
  have HKI := Lib.hid (fun w2 (hb : Below w.heap.size w w2) => ((h.below hb).ino I i2 hni).c0)
  have HT5 := Lib.hid (fun w2 (hb : Below w.heap.size w w2) => ((h.below hb).ino t t2 (by rw [htk]; decide)).c5d htk)
  have HGT := Lib.hid (fun w2 (hb : Below w.heap.size w w2) => (h.below hb).get hG htk u)
  have HF := Lib.hid (fun w2 v hb => RetG.same (w' := w2) h v hb)
  have hnu := nameE_ok h3
  have hIt : I ≠ t := fun e => by subst e; exact hk htk
  have hk2 : ((S.ino I).kind == 2) = false := by simpa using hk
  obtain ⟨_, _, J', hJ', j1, j2, _, hlj, hnj⟩ := hG.1.lead hu
  obtain rfl : J = J' := by omega
  have hv := Lib.hid ((rename_repl h1 gg h2 h3 (fun e => absurd e hk) hu hJI).trans (if_neg he))
  rw [hv.out]
  have hgv : getV u (S.ino t).dir = .tuple #[.int .i64 (J : Int), .int .i64 0] := by unfold getV; rw [hu]
  rw [hgv] at HGT
  have HSJ := Lib.hid (fun w2 (hb : Below w.heap.size w w2) => (h.below hb).slot j2 hnj)
  have HRP := Lib.hid (fun w2 (hb : Below w.heap.size w w2) => replaces_any (h.below hb) hG hni hnj)
  have q1 : ((J : Int) == (I : Int)) = false := by simp; omega
  generalize replE S I J = x at *
  have qx : (x != 0) = true := by simpa using he
  generalize (S.ino I).kind = K at *
  generalize (pl D).nd = N at *
  generalize (pl I).nd = M at *
  generalize (pl t).nd = U at *
  generalize (pl t).di = E at *
  generalize (pl J).nd = V at *
  clear h hG hr hT hn hgv hv hg gg h1 h2 h3 hu hk
  go_enter Tryz.func32, Tryz.ntmps32
  go_wp2_with fail
  refine HN.out.mono ?_
  rintro e w2 ⟨rfl, hb⟩
  have HC2 := Lib.hid (HC.out _ hb)
  go_wp2_with fail
  refine HC2.out.mono ?_
  rintro e w3 ⟨rfl, rfl⟩
  go_wp2_with fail
  refine (HNN.out _).mono ?_
  rintro e w4 ⟨rfl, hb4⟩
  have hB4 := dn.below_step hb hb4
  have HB4 := Lib.hid hB4
  have cs := HSI.out w4 hB4
  have c0 := HKI.out w4 hB4
  have ct := HT5.out w4 hB4
  clear hb hb4 HN HC HC2 HNN hB4
  have HG2 := Lib.hid (HGT.out w4 HB4.out)
  clear HGT
  go_wp2_with fail
  refine HG2.out.mono ?_
  rintro e w6 ⟨rfl, hb6⟩
  have hB6 := dn.below_step HB4.out hb6
  have HB6 := Lib.hid hB6
  clear HG2 cs c0 ct HB4 hb6
  have cs := HSI.out w6 hB6
  have c0 := HKI.out w6 hB6
  have cj := HSJ.out w6 hB6
  have HRP2 := Lib.hid (HRP.out w6 hB6)
  clear HRP HSJ
  go_wp2_with fail
  refine HRP2.out.mono ?_
  rintro e w7 ⟨rfl, rfl⟩
  go_wp2_with fail
  go_ret
  exact HF.out _ _ hB6
set_option maxRecDepth 100000 in
set_option maxHeartbeats 1000000 in
theorem rename_overF (h : CB w P lo st qb qo pl tag S room (freeL S) T) (hG : br.Good S room) (hr : room ≤ 65536) (hT : T ≤ 900000) {D t I : Nat} {s u : ByteArray} (hm : u.size ≤ 9223372036854775807) (h1 : S.dirE (D : Int) true = 0) (hg : lget s (S.ino D).dir = some (I : Int)) (gg : S.get (D : Int) s = ((I : Int), 0)) (h2 : S.dirE (t : Int) true = 0) (h3 : nameE u = 0) (hk : (S.ino I).kind ≠ 2) {J : Nat} (hu : lget u (S.ino t).dir = some (J : Int)) (hJI : J ≠ I) (he : replE S I J = 0) : Calls Tryz.prog 32 #[Pq P, .int .i64 (D : Int), .string s, .int .i64 (t : Int), .string u] w (RetG w P lo st qb tag (.int .i64 (S.rename (D : Int) s (t : Int) u).1) (S.rename (D : Int) s (t : Int) u).2 room T) := by
  obtain ⟨D', hD', d1, d2, hDk, _⟩ := dirE_ok h1
  obtain rfl : D = D' := by omega
  obtain ⟨t', ht', t1, t2, htk, htl⟩ := dirE_ok h2
  obtain rfl : t = t' := by omega
  obtain ⟨_, _, I', hI', i1, i2, iroot, hli, hni⟩ := hG.1.lead hg
  obtain rfl : I = I' := by omega
  have hID : I ≠ D := fun e => hG.1.own hG.2 (D := D) (s := s) (by rw [hg, e])
  have HN := Lib.hid (named_any h hG (D : Int) s)
  unfold RetW at HN
  have hn : namV S pl (D : Int) s = .tuple #[Pq (pl D).nd, .int .i64 (I : Int), .int .i64 0] := by unfold namV; rw [if_neg (by omega), gg]; rfl
  rw [hn] at HN
  have HC := Lib.hid (fun w2 (hb : Below w.heap.size w w2) => changed_any (h.below hb) hG.z0 (t : Int))
  rw [listV_ok h2] at HC
  have HNN := Lib.hid (fun w2 => newName_any u w2 hm)
  unfold RetI at HNN
  rw [h3] at HNN
  have HSI := Lib.hid (fun w2 (hb : Below w.heap.size w w2) => (h.below hb).slot i2 hni)
  have HKI := Lib.hid (fun w2 (hb : Below w.heap.size w w2) => ((h.below hb).ino I i2 hni).c0)
  have HT5 := Lib.hid (fun w2 (hb : Below w.heap.size w w2) => ((h.below hb).ino t t2 (by rw [htk]; decide)).c5d htk)
  have HGT := Lib.hid (fun w2 (hb : Below w.heap.size w w2) => (h.below hb).get hG htk u)
  have HF := Lib.hid (fun w2 v hb => RetG.same (w' := w2) h v hb)
  have hnu := nameE_ok h3
  have hIt : I ≠ t := fun e => by subst e; exact hk htk
  have hk2 : ((S.ino I).kind == 2) = false := by simpa using hk
  obtain ⟨_, _, J', hJ', j1, j2, _, hlj, hnj⟩ := hG.1.lead hu
  obtain rfl : J = J' := by omega
  have hv := Lib.hid ((rename_repl h1 gg h2 h3 (fun e => absurd e hk) hu hJI).trans (if_pos he))
  rw [hv.out]
  have hgv : getV u (S.ino t).dir = .tuple #[.int .i64 (J : Int), .int .i64 0] := by unfold getV; rw [hu]
  rw [hgv] at HGT
  have HSJ := Lib.hid (fun w2 (hb : Below w.heap.size w w2) => (h.below hb).slot j2 hnj)
  have HRP := Lib.hid (fun w2 (hb : Below w.heap.size w w2) => replaces_any (h.below hb) hG hni hnj)
  have q1 : ((J : Int) == (I : Int)) = false := by simp; omega
  rw [he] at HRP
  have HUN := Lib.hid (fun w2 (hb : Below w.heap.size w w2) => unname_any (h.below hb) hG hr hT hu)
  obtain ⟨f1, f2, f3, f4⟩ := drop_facts hG hg hu hJI hIt (repl_dir he)
  have HTL := Lib.hid (fun w2 w7 (hb : Below w.heap.size w w2) (hx : NxF w2 w7 P lo st qb pl tag (S.drop (t : Int) u (J : Int)) room T) => (show TailE w P lo st qb pl tag (S.drop (t : Int) u (J : Int)) room T D t I s u (S.ino I).kind (S.ino I).parent w7 from by
    obtain ⟨T', hT', qo', pl', tag', k1, k2, k3⟩ := hx
    have := tail_any (w := w) (pl := pl) (tag := tag) (T0 := T) (s := s) (u := u) (I := I) f1 hT' f2 f3 (by rw [f4]; exact hni) hID hIt hnu hm k1 ((Stp.below hb).trans k2) k3
    rw [f4] at this; exact this))
  unfold TailE at HTL
  clear f1 f2 f3 f4
  have HKN := Lib.hid hk
  generalize (S.ino I).kind = K at *
  generalize (pl D).nd = N at *
  generalize (pl I).nd = M at *
  generalize (pl t).nd = U at *
  generalize (pl t).di = E at *
  generalize (pl J).nd = V at *
  clear h hG hr hT hn hgv hv hg gg h1 h2 h3 HF hu hk he
  go_enter Tryz.func32, Tryz.ntmps32
  go_wp2_with fail
  refine HN.out.mono ?_
  rintro e w2 ⟨rfl, hb⟩
  have HC2 := Lib.hid (HC.out _ hb)
  go_wp2_with fail
  refine HC2.out.mono ?_
  rintro e w3 ⟨rfl, rfl⟩
  go_wp2_with fail
  refine (HNN.out _).mono ?_
  rintro e w4 ⟨rfl, hb4⟩
  have hB4 := dn.below_step hb hb4
  have HB4 := Lib.hid hB4
  have cs := HSI.out w4 hB4
  have c0 := HKI.out w4 hB4
  have ct := HT5.out w4 hB4
  clear hb hb4 HN HC HC2 HNN hB4
  have HG2 := Lib.hid (HGT.out w4 HB4.out)
  clear HGT
  go_wp2_with fail
  refine HG2.out.mono ?_
  rintro e w6 ⟨rfl, hb6⟩
  have hB6 := dn.below_step HB4.out hb6
  have HB6 := Lib.hid hB6
  clear HG2 cs c0 ct HB4 hb6
  have cs := HSI.out w6 hB6
  have c0 := HKI.out w6 hB6
  have cj := HSJ.out w6 hB6
  have HRP2 := Lib.hid (HRP.out w6 hB6)
  have HU2 := Lib.hid (HUN.out w6 hB6)
  clear HRP HSJ HUN hB6
  go_wp2_with fail
  refine HRP2.out.mono ?_
  rintro e w6 ⟨rfl, rfl⟩
  go_wp2_with fail
  refine HU2.out.mono ?_
  rintro e w9 ⟨rfl, hx⟩
  clear cs c0 cj HU2 HRP2
  obtain ⟨C, c5, hq⟩ := HTL.out _ w9 HB6.out hx
  have HQ := Lib.hid hq
  clear hq
  go_wp2_with fail
  refine HQ.out.mono ?_
  rintro e w7 ⟨v7, rfl, C2, c52, hq2⟩
  have HQ2 := Lib.hid hq2
  clear hq2 HQ c5
  go_wp2_with fail
  refine HQ2.out.mono ?_
  rintro e w8 ⟨rfl, a0, a6, f6, r1, r2⟩
  have HR1 := Lib.hid r1
  have HR2 := Lib.hid r2
  clear r1 r2 HQ2 c52
  go_wp2_with fail
  go_ret
  exact HR1.out HKN.out
set_option maxRecDepth 100000 in
set_option maxHeartbeats 1000000 in
theorem rename_any (h : CB w P lo st qb qo pl tag S room (freeL S) T) (hG : br.Good S room) (hr : room ≤ 65536) (hT : T ≤ 900000) (d : Int) (s : ByteArray) (t : Int) (u : ByteArray) (hm : u.size ≤ 9223372036854775807) : Calls Tryz.prog 32 #[Pq P, .int .i64 d, .string s, .int .i64 t, .string u] w (RetG w P lo st qb tag (.int .i64 (S.rename d s t u).1) (S.rename d s t u).2 room T) := by
  have HN := Lib.hid (named_any h hG d s)
  unfold RetW at HN
  have HF := Lib.hid (fun w2 v hb => RetG.same (w' := w2) h v hb)
  by_cases h1 : S.dirE d true = 0
  · obtain ⟨D, rfl, d1, d2, hD, hl⟩ := dirE_ok h1
    rcases get_lead h1 s with ⟨g1, g2⟩ | ⟨v, g1, g2⟩
    · have hv := Lib.hid (show S.rename (D : Int) s t u = (2, S) by unfold BS.rename; rw [if_neg (by omega), if_pos (by rw [g2]; decide), g2])
      have hn : namV S pl (D : Int) s = .tuple #[Pq (pl D).nd, .int .i64 0, .int .i64 2] := by unfold namV; rw [if_neg (by omega), g2]; rfl
      rw [hn] at HN
      rw [hv.out]
      generalize (pl D).nd = N at *
      clear h hG g1 g2 hn hv h1
      go_enter Tryz.func32, Tryz.ntmps32
      go_wp2_with fail
      refine HN.out.mono ?_
      rintro e w2 ⟨rfl, hb⟩
      go_wp2_with fail
      go_ret
      exact HF.out _ _ hb
    · have hn : namV S pl (D : Int) s = .tuple #[Pq (pl D).nd, .int .i64 v, .int .i64 0] := by unfold namV; rw [if_neg (by omega), g2]; rfl
      obtain ⟨_, _, I, rfl, i1, i2, iroot, hli, hni⟩ := hG.1.lead g1
      by_cases h2 : S.dirE t true = 0
      · obtain ⟨t', rfl, t1, t2, htk, htl⟩ := dirE_ok h2
        by_cases h3 : nameE u = 0
        · by_cases hk : (S.ino I).kind = 2
          · cases hb : S.below (t' : Int) (I : Int) 300
            · cases hu : lget u (S.ino t').dir with
              | none => exact rename_newD h hG hr hT hm h1 g1 g2 h2 h3 hk hb hu
              | some old =>
                obtain ⟨_, _, J, rfl, _⟩ := hG.1.lead hu
                by_cases e : J = I
                · subst e; exact rename_sameD h hG hr hT hm h1 g1 g2 h2 h3 hk hb hu
                · by_cases he : replE S I J = 0
                  · exact rename_overD h hG hr hT hm h1 g1 g2 h2 h3 hk hb hu e he
                  · exact rename_barsD h hG hr hT hm h1 g1 g2 h2 h3 hk hb hu e he
            · have hv := Lib.hid (show S.rename (D : Int) s (t' : Int) u = (22, S) by
                unfold BS.rename
                rw [if_neg (by omega), g2, if_neg (by simp), if_neg (by omega), if_neg (by omega)]
                dsimp only
                rw [at_nat, if_pos ⟨hk, hb⟩])
              rw [hv.out]
              rw [hn] at HN
              have HC := Lib.hid (fun w2 (hb : Below w.heap.size w w2) => changed_any (h.below hb) hG.z0 (t' : Int))
              rw [listV_ok h2] at HC
              have HNN := Lib.hid (fun w2 => newName_any u w2 hm)
              unfold RetI at HNN
              rw [h3] at HNN
              have HSI := Lib.hid (fun w2 (hb : Below w.heap.size w w2) => (h.below hb).slot i2 hni)
              have HKI := Lib.hid (fun w2 (hb : Below w.heap.size w w2) => ((h.below hb).ino I i2 hni).c0)
              have HWI := Lib.hid (fun w2 (hb : Below w.heap.size w w2) => within_any (h.below hb) hG iroot htk (htl rfl))
              rw [hb] at HWI
              rw [hk] at HKI
              generalize (pl D).nd = N at *
              generalize (pl I).nd = M at *
              generalize (pl t').nd = U at *
              clear h hG hr hT hn hv g1 g2 h1 h2 h3 hk hb
              go_enter Tryz.func32, Tryz.ntmps32
              go_wp2_with fail
              refine HN.out.mono ?_
              rintro e w2 ⟨rfl, hb⟩
              have HC2 := Lib.hid (HC.out _ hb)
              go_wp2_with fail
              refine HC2.out.mono ?_
              rintro e w3 ⟨rfl, rfl⟩
              go_wp2_with fail
              refine (HNN.out _).mono ?_
              rintro e w4 ⟨rfl, hb4⟩
              have hB4 := dn.below_step hb hb4
              have cs := HSI.out w4 hB4
              have c0 := HKI.out w4 hB4
              go_wp2_with fail
              refine (HWI.out w4 hB4).mono ?_
              rintro e w5 ⟨rfl, rfl⟩
              go_wp2_with fail
              go_ret
              exact HF.out _ _ hB4
          · cases hu : lget u (S.ino t').dir with
            | none => exact rename_newF h hG hr hT hm h1 g1 g2 h2 h3 hk hu
            | some old =>
              obtain ⟨_, _, J, rfl, _⟩ := hG.1.lead hu
              by_cases e : J = I
              · subst e; exact rename_sameF h hG hr hT hm h1 g1 g2 h2 h3 hk hu
              · by_cases he : replE S I J = 0
                · exact rename_overF h hG hr hT hm h1 g1 g2 h2 h3 hk hu e he
                · exact rename_barsF h hG hr hT hm h1 g1 g2 h2 h3 hk hu e he
        · have hv := Lib.hid (show S.rename (D : Int) s (t' : Int) u = (nameE u, S) by unfold BS.rename; rw [if_neg (by omega), g2, if_neg (by simp), if_neg (by omega), if_pos h3])
          rw [hv.out]
          rw [hn] at HN
          have HC := Lib.hid (fun w2 (hb : Below w.heap.size w w2) => changed_any (h.below hb) hG.z0 (t' : Int))
          rw [listV_ok h2] at HC
          have HNN := Lib.hid (fun w2 => newName_any u w2 hm)
          unfold RetI at HNN
          generalize nameE u = x at *
          have hx : (x != 0) = true := by simpa using h3
          generalize (pl D).nd = N at *
          generalize (pl t').nd = U at *
          clear h hG hr hT hn hv g1 g2 h1 h2 h3
          go_enter Tryz.func32, Tryz.ntmps32
          go_wp2_with fail
          refine HN.out.mono ?_
          rintro e w2 ⟨rfl, hb⟩
          have HC2 := Lib.hid (HC.out _ hb)
          go_wp2_with fail
          refine HC2.out.mono ?_
          rintro e w3 ⟨rfl, rfl⟩
          go_wp2_with fail
          refine (HNN.out _).mono ?_
          rintro e w4 ⟨rfl, hb4⟩
          go_wp2_with fail
          go_ret
          exact HF.out _ _ (dn.below_step hb hb4)
      · have hv := Lib.hid (show S.rename (D : Int) s t u = (S.dirE t true, S) by unfold BS.rename; rw [if_neg (by omega), g2, if_neg (by simp), if_pos h2])
        rw [hv.out]
        rw [hn] at HN
        have HC := Lib.hid (fun w2 (hb : Below w.heap.size w w2) => changed_any (h.below hb) hG.z0 t)
        rw [listV_bad h2] at HC
        generalize S.dirE t true = x at *
        have hx : (x != 0) = true := by simpa using h2
        generalize (pl D).nd = N at *
        clear h hG hr hT hn hv g1 g2 h1 h2
        go_enter Tryz.func32, Tryz.ntmps32
        go_wp2_with fail
        refine HN.out.mono ?_
        rintro e w2 ⟨rfl, hb⟩
        have HC2 := Lib.hid (HC.out _ hb)
        go_wp2_with fail
        refine HC2.out.mono ?_
        rintro e w3 ⟨rfl, rfl⟩
        go_wp2_with fail
        go_ret
        exact HF.out _ _ hb
  · have hv := Lib.hid (show S.rename d s t u = (S.dirE d true, S) by unfold BS.rename; rw [if_pos h1])
    have hn : namV S pl d s = .tuple #[.pointer none, .int .i64 0, .int .i64 (S.dirE d true)] := by unfold namV; rw [if_pos h1]
    rw [hn] at HN
    rw [hv.out]
    generalize S.dirE d true = x at *
    have hx : (x != 0) = true := by simpa using h1
    clear h hG hn hv h1
    go_enter Tryz.func32, Tryz.ntmps32
    go_wp2_with fail
    refine HN.out.mono ?_
    rintro e w2 ⟨rfl, hb⟩
    go_wp2_with fail
    go_ret
    exact HF.out _ _ hb
end
end Go.Proofs.YtlelnpckbcpkkaaGreat.cb
namespace Go.Proofs.YtlelnpckbcpkkaaGreat.cb
open Go.RowKit
open Go.Proofs.YtlelnpckbcpkkaaGreat.qu (KN ins QL)
open Go.Proofs.YtlelnpckbcpkkaaGreat.dn (Du En lget lset ldel getV nerr dotB Sorted RetV serr lsetE)
open Go.Proofs.YtlelnpckbcpkkaaGreat.bl (AB Bod BodC StoC Only Pq cut cutR wr WR)
open Go.Proofs.YtlelnpckbcpkkaaGreat.br
set_option linter.unusedVariables false
set_option linter.unusedSimpArgs false

set_option maxRecDepth 100000 in
theorem new_no (room : Int) (w : World) (hr : room < 0 ∨ 65536 < room) : Calls Tryz.prog 12 #[.int .i64 room] w (fun e w' => e = .returned (.pointer none) ∧ w' = w) := by
  have HN := Lib.hid (bl.new_no room w hr)
  go_enter Tryz.func12, Tryz.ntmps12
  go_wp2_with fail
  refine HN.out.mono ?_
  rintro e w2 ⟨rfl, rfl⟩
  go_wp2_with fail
  go_ret
  exact ⟨rfl, rfl⟩
theorem zero203 : Tryz.zeroCells90 = (List.replicate 203 (Value.pointer none)).toArray := by kernel_rfl
theorem boxB_cell (w : World) (st qb j : Nat) {ob : Obj} (hob : ob = .cells ((Tryz.zeroCells90.setIfInBounds 0 (Pq st)).setIfInBounds 202 (Pq qb)) 90) (hj : j < 203) : (w.alloc ob).cell? ⟨w.heap.size, j, none⟩ = some (if j = 0 then Pq st else if j = 202 then Pq qb else .pointer none) := by
  subst hob
  have e : ((Tryz.zeroCells90.setIfInBounds 0 (Pq st)).setIfInBounds 202 (Pq qb))[j]? = some (if j = 0 then Pq st else if j = 202 then Pq qb else .pointer none) := by
    rw [zero203]
    generalize hr : (List.replicate 203 (Value.pointer none)).toArray = Z
    have hz : Z.size = 203 := by rw [← hr, List.size_toArray, List.length_replicate]
    have hg : Z[j]? = some (.pointer none) := by rw [← hr, List.getElem?_toArray, List.getElem?_replicate, if_pos hj]
    simp only [Array.getElem?_setIfInBounds, Array.size_setIfInBounds, hz]
    by_cases h0 : j = 0
    · subst h0; simp
    · by_cases h2 : j = 202
      · subst h2; simp
      · rw [if_neg (fun e => h2 e.symm), if_neg (fun e => h0 e.symm), if_neg h0, if_neg h2, hg]
  generalize ((Tryz.zeroCells90.setIfInBounds 0 (Pq st)).setIfInBounds 202 (Pq qb)) = Z at *
  simp [e]
def nilB : BS := ⟨fun _ => Ino.nil, 0⟩
/-- A branch without inodes. -/
theorem CB.start {w3 : World} {st qb lo room : Nat} {ob : Obj} (hob : ob = .cells ((Tryz.zeroCells90.setIfInBounds 0 (Pq st)).setIfInBounds 202 (Pq qb)) 90) (hs : StoC w3 st room 0) (hq : QL w3 qb lo none [] 0) (h1 : lo ≤ st) (h2 : lo ≤ qb) (h3 : st ≠ qb) (h4 : st < w3.heap.size) (pl : Nat → Pl) :
    CB (w3.alloc ob) w3.heap.size lo st qb none pl (fun b => if b = w3.heap.size then 1 else if b = st then 2 else if b = qb then 3 else 0) nilB room [] 0 := by
  have hql := QL.lt hq
  have hb := dn.below_alloc w3 ob
  refine ⟨boxB_cell w3 st qb 0 hob (by decide), fun k hk => ?_, boxB_cell w3 st qb 202 hob (by decide), fun j => ?_, StoC.keep hs (hb.block _ h4), QL.keep hq (hb.block _ hql) (fun G e => nomatch e), fun k hk hn => absurd rfl hn, if_pos rfl, ?_, ?_, (fun G e => nomatch e), fun k hk hn => absurd rfl hn, fun b hb' => ?_, fun b hb' => ?_⟩
  · rw [boxB_cell w3 st qb (1 + k) hob (by omega), if_neg (by omega), if_neg (by omega)]; rfl
  · subst hob; generalize ((Tryz.zeroCells90.setIfInBounds 0 (Pq st)).setIfInBounds 202 (Pq qb)) = Z; simp
  · rw [if_neg (by omega), if_pos rfl]
  · rw [if_neg (by omega), if_neg (fun e => h3 e.symm), if_pos rfl]
  · rw [if_neg (by omega), if_neg (by omega), if_neg (by omega)]
  · have : (w3.alloc ob).heap.size = w3.heap.size + 1 := World.size_alloc _ _
    rw [if_neg (by omega), if_neg (by omega), if_neg (by omega)]
theorem fresh_eq : fresh = ⟨upd nilB.ino 1 (newI 2 1 ⟨#[]⟩), nilB.used⟩ := rfl
def upto (k : Nat) : Nat → Bool := fun j => decide (2 ≤ j ∧ j < k)
theorem upto_two : fl (upto 2) 1 200 = [] := by
  cases h : fl (upto 2) 1 200 with
  | nil => rfl
  | cons x r =>
    obtain ⟨j, _, _, _, h4, _⟩ := fl_cons h
    unfold upto at h4; simp at h4; omega
theorem upto_next {k : Nat} (h1 : 2 ≤ k) (h2 : k ≤ 200) : ins (kk k) (fl (upto k) 1 200) = fl (upto (k + 1)) 1 200 := by
  rw [fl_ins (by omega) (by omega) (by unfold upto; simp)]
  exact fl_congr fun j _ _ => by
    unfold setB upto
    by_cases e : j = k
    · subst e; simp; omega
    · rw [if_neg e]
      by_cases e2 : 2 ≤ j ∧ j < k
      · rw [decide_eq_true e2, decide_eq_true (by omega)]
      · rw [decide_eq_false e2, decide_eq_false (by omega)]
theorem upto_all : fl (upto 201) 1 200 = freeL fresh := by
  refine freeL_of fun j h1 h2 => ?_
  unfold upto zf
  rw [fresh_ino]
  by_cases e : j = 1
  · subst e; simp
  · rw [if_neg e]; simp [Ino.nil]; omega
def NewE (w : World) (lo room : Nat) (e : Ending) (w' : World) : Prop :=
  ∃ P st qb qo pl tag, e = .returned (Pq P) ∧ CB w' P lo st qb qo pl tag fresh room (freeL fresh) 199 ∧ (∀ b, b < w.heap.size → tag b = 0) ∧ Below w.heap.size w w' ∧ w.heap.size ≤ P
/-- Mid-way: the numbers below k are in the queue. -/
def MidN (w : World) (P lo st qb room k : Nat) (wr : World) : Prop :=
  ∃ qo pl tag, CB wr P lo st qb qo pl tag fresh room (fl (upto k) 1 200) (k - 2) ∧ (∀ b, b < w.heap.size → tag b = 0) ∧ Below w.heap.size w wr
theorem MidN.push {w wr : World} {P lo st qb room k : Nat} (h : MidN w P lo st qb room k wr) (h1 : 2 ≤ k) (h2 : k ≤ 200) :
    wr.cell? ⟨P, 202, none⟩ = some (Pq qb) ∧ Calls Tryz.prog 44 #[Pq qb, .int .i64 (k : Int), .int .i64 (k : Int)] wr (fun e w' => e = .returned (.tuple #[]) ∧ MidN w P lo st qb room (k + 1) w') := by
  obtain ⟨qo, pl, tag, h, ht, hb⟩ := h
  refine ⟨h.cq, (h.qpush (by omega) (k : Int) (k : Int)).mono ?_⟩
  rintro e w' ⟨he, qo', pl', tag', k1, k2, k3⟩
  rw [upto_next h1 h2, show k - 2 + 1 = k + 1 - 2 by omega] at k1
  refine ⟨he, qo', pl', tag', k1, fun b hb' => by rw [k2.tg b (Nat.lt_of_lt_of_le hb' hb.size)]; exact ht b hb', hb.trans ⟨k2.o.os, k2.o.tape, k2.o.output, k2.o.size, fun j hj => k2.o.block j (Nat.lt_of_lt_of_le hj hb.size) (by rw [ht j hj]; simp)⟩⟩
/-- The root is laid. -/
theorem new_born {w w4 w5 : World} {P lo st qb room : Nat} {pl : Nat → Pl} {tag : Nat → Nat} {p : Pl} (h : CB w4 P lo st qb none pl tag nilB room [] 0) (ht : ∀ b, b < w.heap.size → tag b = 0) (hw : Below w.heap.size w w4) (hb : Below w4.heap.size w4 w5) (hx : InoC w5 st lo p (newI 2 1 ⟨#[]⟩)) (b1 : w4.heap.size ≤ p.nd) (b3 : w4.heap.size ≤ p.di ∧ p.di ≠ p.nd ∧ p.dr = none) (hP : w.heap.size ≤ P) :
    w5.cell? ⟨P, 2, none⟩ = some (.pointer none) ∧ w5.frozen? ⟨P, 2, none⟩ = false ∧ MidN w P lo st qb room 2 (w5.setCell ⟨P, 2, none⟩ (Pq p.nd)) := by
  obtain ⟨tag', h1, h2⟩ := h.born (k := 1) (by decide) (p := p) (x := newI 2 1 ⟨#[]⟩) rfl (by show (2 : Int) ≠ 0; decide) hb hx b1 (fun e => by cases e) (fun _ => b3)
  rw [← fresh_eq, ← upto_two] at h1
  refine ⟨(hb.cell (p := ⟨P, 2, none⟩) h.plt.1).trans (h.ci 1 (by decide)), (hb.frozen (p := ⟨P, 2, none⟩) h.plt.1).trans (h.cf 2), none, _, tag', h1, fun b hb' => ?_, (hw.trans (hb.mono hw.size)).setCell hP _⟩
  rw [h2 b (Nat.lt_of_lt_of_le hb' hw.size)]; exact ht b hb'
set_option maxRecDepth 100000 in
set_option maxHeartbeats 1000000 in
theorem new_yes (room lo : Nat) (w : World) (hr : room ≤ 65536) (hlo : lo ≤ w.heap.size) : Calls Tryz.prog 12 #[.int .i64 (room : Int)] w (NewE w lo room) := by
  have HN := Lib.hid (bl.new_yes room w hr)
  have HQ := Lib.hid (fun w' (hlo : lo ≤ w'.heap.size) => qu.lnew w' lo hlo)
  have HLO := Lib.hid hlo
  go_enter Tryz.func12, Tryz.ntmps12
  go_wp2_with fail
  refine HN.out.mono ?_
  rintro e w2 ⟨rfl, rfl⟩
  go_wp2_with fail
  refine (HQ.out _ (by have := HLO.out; simp; omega)).mono ?_
  rintro e w3 ⟨rfl, q1, q2⟩
  have hz : (w.alloc (.cells #[.int .i64 (room : Int), .int .i64 0] 126)).heap.size = w.heap.size + 1 := World.size_alloc _ _
  rw [hz] at q1 q2
  have hl3 := QL.lt q1
  have hsto : StoC w3 w.heap.size room 0 := StoC.keep (w := w.alloc (.cells #[.int .i64 (room : Int), .int .i64 0] 126)) ⟨by simp, by simp, by simp⟩ (q2.block _ (by omega))
  have hw3 : Below w.heap.size w w3 := (dn.below_alloc w _).trans (q2.mono (by omega))
  have HS := Lib.hid (fun ob hob => CB.start (ob := ob) hob hsto q1 HLO.out (by have := HLO.out; omega) (by omega) (by omega) (fun _ => ⟨0, 0, 0, 0, none, 0⟩))
  have HBK := Lib.hid (fun ob hob => blank_any w3.heap.size w.heap.size lo (w3.alloc ob).drew (HS.out ob hob).c0 (HS.out ob hob).plt.1 (by have := (HS.out ob hob).plt; show lo ≤ (w3.alloc ob).heap.size; omega) 2 1 ⟨#[]⟩)
  have HNB := Lib.hid (fun ob hob w5 p (hb : Below (w3.alloc ob).heap.size (w3.alloc ob) w5) hx b1 b3 => new_born (w := w) (w5 := w5) (p := p) (HS.out ob hob) (fun b hb => by rw [if_neg (by omega), if_neg (by omega), if_neg (by omega)]) (hw3.trans ((dn.below_alloc w3 ob).mono (by omega))) hb hx b1 b3 (by omega))
  have hP3 : w.heap.size ≤ w3.heap.size := by omega
  generalize hst : w.heap.size = st at *
  clear q1 q2 hsto HS hz hw3 HN HQ
  go_wp2_with fail
  go_region_held3 (fun w' => True)
    (first | trivial | assumption | go_keep)
    (first
    | (go_at_call 43; ((with_reducible refine (HBK.out _ rfl).mono ?_); rintro e w5 ⟨p, rfl, hb5, hx5, b1, _, b3⟩; obtain ⟨z1, z2, z3⟩ := HNB.out _ rfl w5 p ((Below.refl _ _).drew.trans hb5) hx5 b1 (b3 rfl))))
  all_goals
    have HZ := Lib.hid z3
    clear z1 z2 z3 hb5 hx5 b1 b3 HBK HNB
    have HPP := Lib.hid hP3
    generalize hP : w3.heap.size = P at *
    generalize hW : w5.setCell ⟨P, 2, none⟩ (Pq p.nd) = w6 at *
    clear hW hP hl3 hP3
    go_wp2_with fail
    go_loopg [5] 199 (fun g s5 wr => ∃ k : Nat, g + k = 201 ∧ 2 ≤ k ∧ s5 = .int .i64 k ∧ Hid (MidN w P lo st (st + 1) room k wr))
    case atStart => exact ⟨2, by omega, by omega, rfl, HZ⟩
    case round =>
      obtain ⟨k, hg, hk2, rfl, HK⟩ := hrel
      by_cases hk : k ≤ 200
      · obtain ⟨c0, hq⟩ := HK.out.push hk2 hk
        have HQ := Lib.hid hq
        clear hq HK
        go_wp2_with fail
        refine HQ.out.mono ?_
        rintro e w7 ⟨rfl, hx⟩
        have HX := Lib.hid hx
        clear hx c0
        go_wp2_with fail
        go_roundg (gk - 1)
        case measure => omega
        case rel => exact ⟨k + 1, by omega, by omega, by go_num, HX⟩
      · have hkk : k = 201 := by omega
        have HE := Lib.hid (show NewE w lo room (.returned (Pq P)) wr by
          obtain ⟨qo, pl, tag, h, ht, hb⟩ := HK.out
          subst hkk
          rw [upto_all] at h
          exact ⟨P, st, st + 1, qo, pl, tag, rfl, h, ht, hb, by rw [hst]; exact HPP.out⟩)
        have hn : ¬ ((k : Int) ≤ 200) := by omega
        clear HK hkk hk
        go_wp2_with fail
        go_ret
        exact HE.out
end Go.Proofs.YtlelnpckbcpkkaaGreat.cb
