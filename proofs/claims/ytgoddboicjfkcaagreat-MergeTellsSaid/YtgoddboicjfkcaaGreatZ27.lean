/- Part 27 of what is known of the program's functions and of the document's words: contracts, and the mathematics beneath them. -/
import Derived.Test.YtgoddboicjfkcaaGreatProg
import Derived.Test.YtgoddboicjfkcaaGreatZ26
set_option linter.unusedVariables false
set_option linter.unusedSimpArgs false
set_option maxRecDepth 100000
set_option maxHeartbeats 8000000
namespace Go.Proofs.YtgoddboicjfkcaaGreat.cb
open Go.RowKit
open br
open dn (En lget lset ldel nerr dotB Sorted getV DuX LaidX)
open bl (AB Only StoC Pq cut cutR wr WR U8 RF)
open bl.rx (RB RS2 Kp)
section
variable {w w' : World} {D lo RS room : Nat} {pl : Nat → Pd} {tag : Nat → Nat} {S : BS}
def MvD (w : World) (D lo RS : Nat) (tag : Nat → Nat) (S1 : BS) (room N T I : Nat) (s u : ByteArray) (k : Int) (w1 : World) : Prop :=
 Calls Tryz.prog 102 #[dn.Px D (1 + N * 9 + 7), .string s] w1 (fun e w2 => ∃ v, e = .returned v ∧
  Calls Tryz.prog 98 #[dn.Px D (1 + T * 9 + 7), .string u, .int .i64 (I : Int)] w2 (fun e w3 => ∃ v, e = .returned v ∧ (∃ par : Int, w3.cell? ⟨D, 1 + I * 9 + 4, none⟩ = some (.int .i64 par)) ∧ w3.frozen? ⟨D, 1 + I * 9 + 4, none⟩ = false ∧
   (k ≠ 2 → NxD w w3 D lo RS tag (S1.move (N : Int) s (T : Int) u (I : Int)) room) ∧ (k = 2 → NxD w (w3.setCell ⟨D, 1 + I * 9 + 4, none⟩ (.int .i64 (T : Int))) D lo RS tag (S1.move (N : Int) s (T : Int) u (I : Int)) room)))
theorem mv_any {w1 : World} {pl1 : Nat → Pd} {tag1 : Nat → Nat} {N T I : Nat} {s u : ByteArray} (hG : br.Good S room) (h : DB w1 D lo RS pl1 tag1 S room) (hs : Stp w w1 tag tag1) (n2 : N ≤ 200) (t2 : T ≤ 200) (i1 : 1 ≤ I) (i2 : I ≤ 200) (hN : (S.ino N).kind = 2) (hT : (S.ino T).kind = 2) (hu : nameE u = 0) (hm : u.size ≤ 9223372036854775807) :
  MvD w D lo RS tag S room N T I s u (S.ino I).kind w1 := by
 obtain ⟨u1, u2⟩ := nameE_ok hu
 obtain ⟨A, hA⟩ : ∃ A, BS.mk (br.upd S.ino N { S.ino N with dir := ldel s (S.ino N).dir }) S.used = A := ⟨_, rfl⟩
 have hAk : ∀ j, (A.ino j).kind = (S.ino j).kind := fun j => by
  rw [← hA]
  by_cases e : j = N
  ·subst e; show (br.upd _ _ _ _).kind = _; rw [upd_same]
  ·show (br.upd _ _ _ _).kind = _; rw [upd_other _ _ e]
 have hAd : ∀ j, Sorted (A.ino j).dir ∧ (A.ino j).dir.length ≤ 4000 ∧ ∀ e ∈ (A.ino j).dir, e.1.size ≤ 9223372036854775807 := fun j => by
  have h1 := hG.1.sorted j
  have h2 := hG.1.dirLen j
  have h3 : ∀ e ∈ (S.ino j).dir, e.1.size ≤ 9223372036854775807 := fun e he => by have := nerr_len (hG.1.good j e he).1; omega
  rw [← hA]
  by_cases e : j = N
  ·subst e
   show Sorted (br.upd _ _ _ _).dir ∧ (br.upd _ _ _ _).dir.length ≤ 4000 ∧ ∀ e ∈ (br.upd _ _ _ _).dir, _
   rw [upd_same]
   exact ⟨dn.ldel_sorted h1, Nat.le_trans (List.length_filter_le _ _) h2, fun e he => h3 e ((dn.ldel_mem e).1 he).1⟩
  ·show Sorted (br.upd _ _ _ _).dir ∧ (br.upd _ _ _ _).dir.length ≤ 4000 ∧ ∀ e ∈ (br.upd _ _ _ _).dir, _
   rw [upd_other _ _ e]
   exact ⟨h1, h2, h3⟩
 have hmv : S.move (N : Int) s (T : Int) u (I : Int) = if (S.ino I).kind = 2 then ⟨br.upd (br.upd A.ino T { A.ino T with dir := lset u (I : Int) (A.ino T).dir }) I { (br.upd A.ino T { A.ino T with dir := lset u (I : Int) (A.ino T).dir } I) with parent := (T : Int) }, A.used⟩ else ⟨br.upd A.ino T { A.ino T with dir := lset u (I : Int) (A.ino T).dir }, A.used⟩ := by
  rw [← hA]
  unfold BS.move BS.putDir BS.put
  simp only [at_nat, Int.toNat_natCast]
 refine (q_ddel h hG n2 hN s).mono ?_
 rintro e w2 ⟨rfl, pl2, tag2, h2, s2⟩
 rw [hA] at h2
 have hd := hAd T
 refine ⟨_, rfl, (q_dset h2 t2 (by rw [hAk]; exact hT) hd.1 hd.2.1 hd.2.2 u (I : Int) hm u1 u2 (by omega)).mono ?_⟩
 rintro e w3 ⟨rfl, pl3, tag3, h3, s3⟩
 have hs3 := (hs.trans s2).trans s3
 refine ⟨_, rfl, ⟨_, (h3.ino I i2).c4⟩, h3.cf _, fun hk => ?_, fun hk => ?_⟩
 ·rw [hmv, if_neg hk]
  exact ⟨pl3, tag3, h3, hs3⟩
 ·rw [hmv, if_pos hk]
  exact NxD.trans hs3 (h3.parent i2 (T : Int))
theorem q_rename (h : DB w D lo RS pl tag S room) (hG : br.Good S room) (hr : room ≤ 65536) (hb : ∀ k, (S.ino k).holds ≤ 900000) (d : Int) (s : ByteArray) (t : Int) (u : ByteArray) (hm : u.size ≤ 9223372036854775807) : Calls Tryz.prog 67 #[Pq D, .int .i64 d, .string s, .int .i64 t, .string u] w (RetD w D lo RS tag (.int .i64 (S.rename d s t u).1) (S.rename d s t u).2 room) := by
 have HD := Lib.hid (q_dir h d true)
 unfold RetQ at HD
 have HF := Lib.hid (fun w' (hb : Below w.heap.size w w') => h.nxb hb)
 have HF0 := Lib.hid h.nx
 by_cases e1 : S.dirE d true = 0
 case neg =>
  rw [show S.rename d s t u = (S.dirE d true, S) by unfold BS.rename; rw [if_pos e1]]
  generalize S.dirE d true = x at *
  have hq : (x != 0) = true := by simpa using e1
  clear h hG hb e1 HF
  go_enter Tryz.func67, Tryz.ntmps67
  go_wp2_with fail
  refine HD.out.mono ?_
  rintro e w3 ⟨rfl, rfl⟩
  go_wp2_with fail
  go_ret
  exact ⟨rfl, HF0.out⟩
 have HG := Lib.hid (q_get h hG d s)
 unfold RetQ at HG
 by_cases e2 : (S.get d s).2 = 0
 case neg =>
  rw [show S.rename d s t u = ((S.get d s).2, S) by unfold BS.rename; rw [if_neg (by simpa using e1), if_pos e2]]
  rw [e1] at HD
  generalize (S.get d s).1 = y at *
  generalize (S.get d s).2 = x at *
  have hq : (x != 0) = true := by simpa using e2
  clear h hG hb e1 e2 HF
  go_enter Tryz.func67, Tryz.ntmps67
  go_wp2_with fail
  refine HD.out.mono ?_
  rintro e w3 ⟨rfl, rfl⟩
  go_wp2_with fail
  refine HG.out.mono ?_
  rintro e w3 ⟨rfl, rfl⟩
  go_wp2_with fail
  go_ret
  exact ⟨rfl, HF0.out⟩
 rw [e1] at HD
 rw [e2] at HG
 have HT := Lib.hid (q_dir h t true)
 unfold RetQ at HT
 by_cases e3 : S.dirE t true = 0
 case neg =>
  rw [show S.rename d s t u = (S.dirE t true, S) by unfold BS.rename; rw [if_neg (by simpa using e1), if_neg (by simpa using e2), if_pos e3]]
  generalize (S.get d s).1 = y at *
  generalize S.dirE t true = x at *
  have hq : (x != 0) = true := by simpa using e3
  have hq2 : (x == 0) = false := by simpa using e3
  clear h hG hb e1 e2 e3 HF
  go_enter Tryz.func67, Tryz.ntmps67
  go_wp2_with fail
  refine HD.out.mono ?_
  rintro e w3 ⟨rfl, rfl⟩
  go_wp2_with fail
  refine HG.out.mono ?_
  rintro e w3 ⟨rfl, rfl⟩
  go_wp2_with fail
  refine HT.out.mono ?_
  rintro e w3 ⟨rfl, rfl⟩
  go_wp2_with fail
  go_ret
  exact ⟨rfl, HF0.out⟩
 rw [e3] at HT
 have HN := Lib.hid (q_set u w hm)
 unfold RetI at HN
 by_cases e4 : nameE u = 0
 case neg =>
  rw [show S.rename d s t u = (nameE u, S) by unfold BS.rename; rw [if_neg (by simpa using e1), if_neg (by simpa using e2), if_neg (by simpa using e3), if_pos e4]]
  generalize (S.get d s).1 = y at *
  generalize nameE u = x at *
  have hq : (x != 0) = true := by simpa using e4
  clear h hG hb e1 e2 e3 e4
  go_enter Tryz.func67, Tryz.ntmps67
  go_wp2_with fail
  refine HD.out.mono ?_
  rintro e w3 ⟨rfl, rfl⟩
  go_wp2_with fail
  refine HG.out.mono ?_
  rintro e w3 ⟨rfl, rfl⟩
  go_wp2_with fail
  refine HT.out.mono ?_
  rintro e w3 ⟨rfl, rfl⟩
  go_wp2_with fail
  refine HN.out.mono ?_
  rintro e w3 ⟨rfl, hb3⟩
  go_wp2_with fail
  go_ret
  exact ⟨rfl, HF.out _ hb3⟩
 rw [e4] at HN
 obtain ⟨N, rfl, n1, n2, hk, hg⟩ := get_ok e2
 obtain ⟨T, rfl, t1, t2, tk, tl⟩ := dirE_ok e3
 have tl := tl rfl
 have hget : S.get (N : Int) s = ((S.get (N : Int) s).1, 0) := by rw [← e2]
 generalize hv : (S.get (N : Int) s).1 = v at *
 obtain ⟨_, _, I, rfl, i1, i2, i3, i4, i5⟩ := hG.1.lead hg
 have hNI : I ≠ N := fun e => by subst e; exact hG.1.own hG.2 hg
 have hI0 : (0 : Int) ≤ (I : Int) := by omega
 have hI1 : (I : Int) < 201 := by omega
 have hN0 : (0 : Int) ≤ (N : Int) := by omega
 have hN1 : (N : Int) < 201 := by omega
 have hT0 : (0 : Int) ≤ (T : Int) := by omega
 have hT1 : (T : Int) < 201 := by omega
 have HC := Lib.hid (fun w3 (hb : Below w.heap.size w w3) => ((h.below hb).ino I i2).c0)
 have HBL := Lib.hid (fun w3 (hb : Below w.heap.size w w3) => q_below (h.below hb) hG tk tl (I : Int))
 unfold RetQ at HBL
 have HG2 := Lib.hid (fun w3 (hb : Below w.heap.size w w3) => q_get (h.below hb) hG (T : Int) u)
 unfold RetQ at HG2
 have HB := Lib.hid (fun w3 (hb : Below w.heap.size w w3) => (Stp.below hb : Stp w w3 tag tag))
 by_cases hk2 : (S.ino I).kind = 2
 ·by_cases hbl : S.below (T : Int) (I : Int) 300 = true
  ·rw [show S.rename (N : Int) s (T : Int) u = (22, S) by
    unfold BS.rename
    rw [hget, if_neg (by rw [e1]; decide), if_neg (show ¬ ((0 : Int) ≠ 0) by decide), if_neg (by rw [e3]; decide), if_neg (by rw [e4]; decide)]
    dsimp only
    rw [at_nat, if_pos ⟨hk2, hbl⟩]]
   rw [hk2] at HC
   rw [hbl] at HBL
   clear h hG hb e1 e2 e3 e4 hk tk tl hg hget hv i3 i4 i5 hNI hk2 hbl HG2
   go_enter Tryz.func67, Tryz.ntmps67
   go_wp2_with fail
   refine HD.out.mono ?_
   rintro e w3 ⟨rfl, rfl⟩
   go_wp2_with fail
   refine HG.out.mono ?_
   rintro e w3 ⟨rfl, rfl⟩
   go_wp2_with fail
   refine HT.out.mono ?_
   rintro e w3 ⟨rfl, rfl⟩
   go_wp2_with fail
   refine HN.out.mono ?_
   rintro e w4 ⟨rfl, hb4⟩
   have c0 := HC.out _ hb4
   have HB4 := Lib.hid hb4
   have HBL4 := Lib.hid (HBL.out _ hb4)
   clear hb4 HBL HC HN
   go_wp2_with fail
   refine HBL4.out.mono ?_
   rintro e w5 ⟨rfl, hw5⟩
   subst hw5
   go_wp2_with fail
   go_ret
   exact ⟨rfl, HF.out _ HB4.out⟩
  have hbl2 : (S.ino I).kind = 2 → S.below (T : Int) (I : Int) 300 = false := fun _ => by simpa using hbl
  have hbl3 : S.below (T : Int) (I : Int) 300 = false := by simpa using hbl
  rw [hbl3] at HBL
  have hIT : I ≠ T := fun e => by subst e; exact hbl below_self
  cases hu : lget u (S.ino T).dir with
  | none =>
   as_aux_lemma =>
    have hR : S.rename (N : Int) s (T : Int) u = (0, S.move (N : Int) s (T : Int) u (I : Int)) := by rw [rename_pre e1 hget e3 e4 hbl2, hu]
    rw [hR]
    dsimp only
    rw [get_no t1 t2 tk hu] at HG2
    dsimp only at HG2
    have HM := Lib.hid (fun w4 (hb4 : Below w.heap.size w w4) => mv_any (u := u) (s := s) hG (h.below hb4) (HB.out _ hb4) n2 t2 i1 i2 hk tk e4 hm)
    unfold MvD at HM
    generalize S.move (N : Int) s (T : Int) u (I : Int) = S2 at *
    rw [hk2] at HM HC
    clear h hG hb e1 e2 e3 e4 hk tk tl hg hget hv i3 i4 i5 hNI hk2 hR hu hIT hbl hbl2 hbl3
    go_enter Tryz.func67, Tryz.ntmps67
    go_wp2_with fail
    refine HD.out.mono ?_
    rintro e w3 ⟨rfl, rfl⟩
    go_wp2_with fail
    refine HG.out.mono ?_
    rintro e w3 ⟨rfl, rfl⟩
    go_wp2_with fail
    refine HT.out.mono ?_
    rintro e w3 ⟨rfl, rfl⟩
    go_wp2_with fail
    refine HN.out.mono ?_
    rintro e w4 ⟨rfl, hb4⟩
    have c0 := HC.out _ hb4
    have HB4 := Lib.hid hb4
    have HBL4 := Lib.hid (HBL.out _ hb4)
    clear hb4 HBL HC HN
    go_wp2_with fail
    refine HBL4.out.mono ?_
    rintro e w5 ⟨rfl, hw5⟩
    subst hw5
    have HG5 := Lib.hid (HG2.out _ HB4.out)
    clear HG2
    go_wp2_with fail
    refine HG5.out.mono ?_
    rintro e w6 ⟨rfl, hw6⟩
    subst hw6
    have HMV := Lib.hid (HM.out _ HB4.out)
    clear HM
    go_wp2_with fail
    refine HMV.out.mono ?_
    rintro e w7 ⟨v7, rfl, hset⟩
    have HSET := Lib.hid hset
    clear hset HMV
    go_wp2_with fail
    refine HSET.out.mono ?_
    rintro e w8 ⟨v8, rfl, ⟨par, c4⟩, f4, hn1, hn2⟩
    have HX := Lib.hid (hn2 (by simp))
    clear hn1 hn2 HSET
    go_wp2_with fail
    go_ret
    exact ⟨rfl, HX.out⟩
  | some old =>
   as_aux_lemma =>
    have hget2 := get_of t1 t2 tk hu
    rw [hget2] at HG2
    dsimp only at HG2
    obtain ⟨_, _, J, rfl, j1, j2, j3, j4, j5⟩ := hG.1.lead hu
    have hJ0 : (0 : Int) ≤ (J : Int) := by omega
    have hJ1 : (J : Int) < 201 := by omega
    have HJ := Lib.hid (fun w3 (hb : Below w.heap.size w w3) => ((h.below hb).ino J j2).c0)
    have HJd := Lib.hid (fun w3 (hb : Below w.heap.size w w3) => ((h.below hb).ino J j2).d.d0)
    by_cases hJI : J = I
    ·rw [show S.rename (N : Int) s (T : Int) u = (0, S) by rw [rename_pre e1 hget e3 e4 hbl2, hu]; dsimp only; rw [if_pos (by rw [hJI])]]
     have eJI := hJI.symm
     clear hJI
     subst eJI
     rw [hk2] at HC
     clear h hG hb e1 e2 e3 e4 hk tk tl hg hget hv i3 i4 i5 hNI hk2 hu hIT hget2 j3 j4 j5 hbl hbl2 hbl3
     go_enter Tryz.func67, Tryz.ntmps67
     go_wp2_with fail
     refine HD.out.mono ?_
     rintro e w3 ⟨rfl, rfl⟩
     go_wp2_with fail
     refine HG.out.mono ?_
     rintro e w3 ⟨rfl, rfl⟩
     go_wp2_with fail
     refine HT.out.mono ?_
     rintro e w3 ⟨rfl, rfl⟩
     go_wp2_with fail
     refine HN.out.mono ?_
     rintro e w4 ⟨rfl, hb4⟩
     have c0 := HC.out _ hb4
     have HB4 := Lib.hid hb4
     have cj := HJ.out _ hb4
     have HBL4 := Lib.hid (HBL.out _ hb4)
     clear hb4 HBL HC HN
     go_wp2_with fail
     refine HBL4.out.mono ?_
     rintro e w5 ⟨rfl, hw5⟩
     subst hw5
     have HG5 := Lib.hid (HG2.out _ HB4.out)
     clear HG2
     go_wp2_with fail
     refine HG5.out.mono ?_
     rintro e w6 ⟨rfl, hw6⟩
     subst hw6
     clear HJ HJd
     go_wp2_with fail
     go_ret
     exact ⟨rfl, HF.out _ HB4.out⟩
    have hJT : J ≠ T := fun e => by subst e; exact hG.1.own hG.2 hu
    have hqJ : ((J : Int) == (I : Int)) = false := by simp; omega
    have hRR := rename_repl e1 hget e3 e4 hbl2 hu hJI
    by_cases hJ2 : (S.ino J).kind = 2
    case neg =>
     rw [show S.rename (N : Int) s (T : Int) u = (20, S) by rw [hRR]; unfold replE; simp [hJ2, hk2]]
     generalize hjj : (S.ino J).kind = jj at *
     have qj : (jj == 2) = false := by simpa using hJ2
     rw [hk2] at HC
     clear h hG hb e1 e2 e3 e4 hk tk tl hg hget hv i3 i4 i5 hNI hk2 hu hIT hget2 j3 j4 j5 hRR hJT hjj hJ2 hbl hbl2 hbl3
     go_enter Tryz.func67, Tryz.ntmps67
     go_wp2_with fail
     refine HD.out.mono ?_
     rintro e w3 ⟨rfl, rfl⟩
     go_wp2_with fail
     refine HG.out.mono ?_
     rintro e w3 ⟨rfl, rfl⟩
     go_wp2_with fail
     refine HT.out.mono ?_
     rintro e w3 ⟨rfl, rfl⟩
     go_wp2_with fail
     refine HN.out.mono ?_
     rintro e w4 ⟨rfl, hb4⟩
     have c0 := HC.out _ hb4
     have HB4 := Lib.hid hb4
     have cj := HJ.out _ hb4
     have HBL4 := Lib.hid (HBL.out _ hb4)
     clear hb4 HBL HC HN
     go_wp2_with fail
     refine HBL4.out.mono ?_
     rintro e w5 ⟨rfl, hw5⟩
     subst hw5
     have HG5 := Lib.hid (HG2.out _ HB4.out)
     clear HG2
     go_wp2_with fail
     refine HG5.out.mono ?_
     rintro e w6 ⟨rfl, hw6⟩
     subst hw6
     clear HJ HJd
     go_wp2_with fail
     go_ret
     exact ⟨rfl, HF.out _ HB4.out⟩
    rw [hJ2] at HJ
    by_cases hJd : (S.ino J).dir = []
    case neg =>
     rw [show S.rename (N : Int) s (T : Int) u = (39, S) by rw [hRR]; unfold replE; simp [hJ2, hk2, hJd]]
     have hlen : 0 < (S.ino J).dir.length := List.length_pos_iff.2 hJd
     have hlen2 := hG.1.dirLen J
     generalize (S.ino J).dir.length = ln at *
     have hl0 : (0 : Int) < (ln : Int) := by omega
     rw [hk2] at HC
     clear h hG hb e1 e2 e3 e4 hk tk tl hg hget hv i3 i4 i5 hNI hk2 hu hIT hget2 j3 j4 j5 hRR hJT hJ2 hJd hbl hbl2 hbl3
     go_enter Tryz.func67, Tryz.ntmps67
     go_wp2_with fail
     refine HD.out.mono ?_
     rintro e w3 ⟨rfl, rfl⟩
     go_wp2_with fail
     refine HG.out.mono ?_
     rintro e w3 ⟨rfl, rfl⟩
     go_wp2_with fail
     refine HT.out.mono ?_
     rintro e w3 ⟨rfl, rfl⟩
     go_wp2_with fail
     refine HN.out.mono ?_
     rintro e w4 ⟨rfl, hb4⟩
     have c0 := HC.out _ hb4
     have HB4 := Lib.hid hb4
     have cj := HJ.out _ hb4
     have dj := HJd.out _ hb4
     have HBL4 := Lib.hid (HBL.out _ hb4)
     clear hb4 HBL HC HN
     go_wp2_with fail
     refine HBL4.out.mono ?_
     rintro e w5 ⟨rfl, hw5⟩
     subst hw5
     have HG5 := Lib.hid (HG2.out _ HB4.out)
     clear HG2
     go_wp2_with fail
     refine HG5.out.mono ?_
     rintro e w6 ⟨rfl, hw6⟩
     subst hw6
     clear HJ HJd
     go_wp2_with fail
     go_ret
     exact ⟨rfl, HF.out _ HB4.out⟩
    have hrep : replE S I J = 0 := by unfold replE; simp [hJ2, hk2, hJd]
    have hdr : (S.ino J).kind = 2 → (S.ino J).dir = [] := fun _ => hJd
    rw [hJd] at HJd
    dsimp only [List.length_nil] at HJd
    rw [hRR, if_pos hrep]
    dsimp only
    obtain ⟨gd, k1, k2, k3⟩ := drop_facts hG hg hu hJI hIT hdr
    have HDD := Lib.hid (fun w4 (hb4 : Below w.heap.size w w4) => q_ddel (h.below hb4) hG t2 tk u)
    unfold RetD at HDD
    obtain ⟨gv, hgv⟩ : ∃ gv, getV u (S.ino T).dir = gv := ⟨_, rfl⟩
    rw [hgv] at HDD
    obtain ⟨S1, hS1⟩ : ∃ S1, BS.mk (br.upd S.ino T { S.ino T with dir := ldel u (S.ino T).dir }) S.used = S1 := ⟨_, rfl⟩
    rw [hS1] at HDD
    have hdl : S.drop (T : Int) u (J : Int) = S1.less (J : Int) 1 0 := by rw [drop_less, hS1]
    have h1J : S1.ino J = S.ino J := by rw [← hS1]; exact upd_other _ _ hJT
    obtain ⟨g1, g2, g3⟩ := Good_body2 hG hr J
    have hnum := hG.1.nums J
    have h9 := hb J
    have ht := hG.1.twenty J
    have HL := Lib.hid (fun w4 pl1 tag1 (h1 : DB w4 D lo RS pl1 tag1 S1 room) => q_less h1 (I := J) (by rw [h1J]; exact g1) (by rw [h1J, ← hS1]; exact g2) (by rw [← hS1]; exact g3) j1 j2 1 0 (by rw [h1J]; omega) (by rw [h1J]; omega) (by rw [h1J]; omega) (by rw [h1J]; omega) (by omega) (by omega))
    unfold RetD at HL
    rw [← hdl] at HL
    generalize S.drop (T : Int) u (J : Int) = S3 at *
    have HM := Lib.hid (fun w6 pl6 tag6 (h6 : DB w6 D lo RS pl6 tag6 S3 room) (s6 : Stp w w6 tag tag6) => mv_any (u := u) (s := s) gd h6 s6 n2 t2 i1 i2 k1 k2 e4 hm)
    unfold MvD at HM
    rw [k3] at HM
    generalize S3.move (N : Int) s (T : Int) u (I : Int) = S2 at *
    rw [hk2] at HM HC
    clear h hG hb e1 e2 e3 e4 hk tk tl hg hget hv i3 i4 i5 hNI hu hIT hget2 j3 j4 j5 hRR hJT hJ2 hrep hdr gd k1 k2 k3 hgv hS1 hdl h1J g1 g2 g3 hnum h9 ht hk2 hJd hbl hbl2 hbl3
    go_enter Tryz.func67, Tryz.ntmps67
    go_wp2_with fail
    refine HD.out.mono ?_
    rintro e w3 ⟨rfl, rfl⟩
    go_wp2_with fail
    refine HG.out.mono ?_
    rintro e w3 ⟨rfl, rfl⟩
    go_wp2_with fail
    refine HT.out.mono ?_
    rintro e w3 ⟨rfl, rfl⟩
    go_wp2_with fail
    refine HN.out.mono ?_
    rintro e w4 ⟨rfl, hb4⟩
    have c0 := HC.out _ hb4
    have HB4 := Lib.hid hb4
    have cj := HJ.out _ hb4
    have dj := HJd.out _ hb4
    have HDD4 := Lib.hid (HDD.out _ hb4)
    have ST4 := Lib.hid (HB.out _ hb4)
    clear HJ HJd HDD
    have HBL4 := Lib.hid (HBL.out _ hb4)
    clear hb4 HBL HC HN
    go_wp2_with fail
    refine HBL4.out.mono ?_
    rintro e w5 ⟨rfl, hw5⟩
    subst hw5
    have HG5 := Lib.hid (HG2.out _ HB4.out)
    clear HG2
    go_wp2_with fail
    refine HG5.out.mono ?_
    rintro e w6 ⟨rfl, hw6⟩
    subst hw6
    go_wp2_with fail
    refine HDD4.out.mono ?_
    rintro e w7 ⟨rfl, pl7, tag7, h7, s7⟩
    have HL7 := Lib.hid (HL.out _ _ _ h7)
    have ST7 := Lib.hid (ST4.out.trans s7)
    clear h7 s7 HDD4 ST4 HL
    go_wp2_with fail
    refine HL7.out.mono ?_
    rintro e w8 ⟨rfl, pl8, tag8, h8, s8⟩
    have HMV := Lib.hid (HM.out _ _ _ h8 (ST7.out.trans s8))
    clear h8 s8 HL7 ST7 HM
    go_wp2_with fail
    refine HMV.out.mono ?_
    rintro e w7 ⟨v7, rfl, hset⟩
    have HSET := Lib.hid hset
    clear hset HMV
    go_wp2_with fail
    refine HSET.out.mono ?_
    rintro e w8 ⟨v8, rfl, ⟨par, c4⟩, f4, hn1, hn2⟩
    have HX := Lib.hid (hn2 (by simp))
    clear hn1 hn2 HSET
    go_wp2_with fail
    go_ret
    exact ⟨rfl, HX.out⟩
 ·have hbl2 : (S.ino I).kind = 2 → S.below (T : Int) (I : Int) 300 = false := fun e => absurd e hk2
  have hIT : I ≠ T := fun e => by subst e; exact hk2 tk
  clear HBL
  cases hu : lget u (S.ino T).dir with
  | none =>
   as_aux_lemma =>
    have hR : S.rename (N : Int) s (T : Int) u = (0, S.move (N : Int) s (T : Int) u (I : Int)) := by rw [rename_pre e1 hget e3 e4 hbl2, hu]
    rw [hR]
    dsimp only
    rw [get_no t1 t2 tk hu] at HG2
    dsimp only at HG2
    have HM := Lib.hid (fun w4 (hb4 : Below w.heap.size w w4) => mv_any (u := u) (s := s) hG (h.below hb4) (HB.out _ hb4) n2 t2 i1 i2 hk tk e4 hm)
    unfold MvD at HM
    generalize S.move (N : Int) s (T : Int) u (I : Int) = S2 at *
    generalize hkk : (S.ino I).kind = kk at *
    have qk : (kk == 2) = false := by simpa using hk2
    have hk2' := hk2
    clear h hG hb e1 e2 e3 e4 hk tk tl hg hget hv i3 i4 i5 hNI hkk hR hu hIT hbl2
    go_enter Tryz.func67, Tryz.ntmps67
    go_wp2_with fail
    refine HD.out.mono ?_
    rintro e w3 ⟨rfl, rfl⟩
    go_wp2_with fail
    refine HG.out.mono ?_
    rintro e w3 ⟨rfl, rfl⟩
    go_wp2_with fail
    refine HT.out.mono ?_
    rintro e w3 ⟨rfl, rfl⟩
    go_wp2_with fail
    refine HN.out.mono ?_
    rintro e w4 ⟨rfl, hb4⟩
    have c0 := HC.out _ hb4
    have HB4 := Lib.hid hb4
    clear hb4 HC HN
    have HG5 := Lib.hid (HG2.out _ HB4.out)
    clear HG2
    go_wp2_with fail
    refine HG5.out.mono ?_
    rintro e w6 ⟨rfl, hw6⟩
    subst hw6
    have HMV := Lib.hid (HM.out _ HB4.out)
    clear HM
    go_wp2_with fail
    refine HMV.out.mono ?_
    rintro e w7 ⟨v7, rfl, hset⟩
    have HSET := Lib.hid hset
    clear hset HMV
    go_wp2_with fail
    refine HSET.out.mono ?_
    rintro e w8 ⟨v8, rfl, ⟨par, c4⟩, f4, hn1, hn2⟩
    have HX := Lib.hid (hn1 hk2')
    clear hn1 hn2 HSET
    go_wp2_with fail
    go_ret
    exact ⟨rfl, HX.out⟩
  | some old =>
   as_aux_lemma =>
    have hget2 := get_of t1 t2 tk hu
    rw [hget2] at HG2
    dsimp only at HG2
    obtain ⟨_, _, J, rfl, j1, j2, j3, j4, j5⟩ := hG.1.lead hu
    have hJ0 : (0 : Int) ≤ (J : Int) := by omega
    have hJ1 : (J : Int) < 201 := by omega
    have HJ := Lib.hid (fun w3 (hb : Below w.heap.size w w3) => ((h.below hb).ino J j2).c0)
    have HJd := Lib.hid (fun w3 (hb : Below w.heap.size w w3) => ((h.below hb).ino J j2).d.d0)
    by_cases hJI : J = I
    ·rw [show S.rename (N : Int) s (T : Int) u = (0, S) by rw [rename_pre e1 hget e3 e4 hbl2, hu]; dsimp only; rw [if_pos (by rw [hJI])]]
     have eJI := hJI.symm
     clear hJI
     subst eJI
     generalize hkk : (S.ino I).kind = kk at *
     have qk : (kk == 2) = false := by simpa using hk2
     clear h hG hb e1 e2 e3 e4 hk tk tl hg hget hv i3 i4 i5 hNI hk2 hkk hu hIT hget2 j3 j4 j5 hbl2
     go_enter Tryz.func67, Tryz.ntmps67
     go_wp2_with fail
     refine HD.out.mono ?_
     rintro e w3 ⟨rfl, rfl⟩
     go_wp2_with fail
     refine HG.out.mono ?_
     rintro e w3 ⟨rfl, rfl⟩
     go_wp2_with fail
     refine HT.out.mono ?_
     rintro e w3 ⟨rfl, rfl⟩
     go_wp2_with fail
     refine HN.out.mono ?_
     rintro e w4 ⟨rfl, hb4⟩
     have c0 := HC.out _ hb4
     have HB4 := Lib.hid hb4
     have cj := HJ.out _ hb4
     clear hb4 HC HN
     have HG5 := Lib.hid (HG2.out _ HB4.out)
     clear HG2
     go_wp2_with fail
     refine HG5.out.mono ?_
     rintro e w6 ⟨rfl, hw6⟩
     subst hw6
     clear HJ HJd
     go_wp2_with fail
     go_ret
     exact ⟨rfl, HF.out _ HB4.out⟩
    have hJT : J ≠ T := fun e => by subst e; exact hG.1.own hG.2 hu
    have hqJ : ((J : Int) == (I : Int)) = false := by simp; omega
    have hRR := rename_repl e1 hget e3 e4 hbl2 hu hJI
    by_cases hJ2 : (S.ino J).kind = 2
    ·rw [show S.rename (N : Int) s (T : Int) u = (21, S) by rw [hRR]; unfold replE; simp [hJ2, hk2]]
     rw [hJ2] at HJ
     generalize hkk : (S.ino I).kind = kk at *
     have qk : (kk == 2) = false := by simpa using hk2
     clear h hG hb e1 e2 e3 e4 hk tk tl hg hget hv i3 i4 i5 hNI hk2 hkk hu hIT hget2 j3 j4 j5 hRR hJT hJ2 hbl2
     go_enter Tryz.func67, Tryz.ntmps67
     go_wp2_with fail
     refine HD.out.mono ?_
     rintro e w3 ⟨rfl, rfl⟩
     go_wp2_with fail
     refine HG.out.mono ?_
     rintro e w3 ⟨rfl, rfl⟩
     go_wp2_with fail
     refine HT.out.mono ?_
     rintro e w3 ⟨rfl, rfl⟩
     go_wp2_with fail
     refine HN.out.mono ?_
     rintro e w4 ⟨rfl, hb4⟩
     have c0 := HC.out _ hb4
     have HB4 := Lib.hid hb4
     have cj := HJ.out _ hb4
     clear hb4 HC HN
     have HG5 := Lib.hid (HG2.out _ HB4.out)
     clear HG2
     go_wp2_with fail
     refine HG5.out.mono ?_
     rintro e w6 ⟨rfl, hw6⟩
     subst hw6
     clear HJ HJd
     go_wp2_with fail
     go_ret
     exact ⟨rfl, HF.out _ HB4.out⟩
    have hrep : replE S I J = 0 := by unfold replE; simp [hJ2, hk2]
    have hdr : (S.ino J).kind = 2 → (S.ino J).dir = [] := fun e => absurd e hJ2
    rw [hRR, if_pos hrep]
    dsimp only
    obtain ⟨gd, k1, k2, k3⟩ := drop_facts hG hg hu hJI hIT hdr
    have HDD := Lib.hid (fun w4 (hb4 : Below w.heap.size w w4) => q_ddel (h.below hb4) hG t2 tk u)
    unfold RetD at HDD
    obtain ⟨gv, hgv⟩ : ∃ gv, getV u (S.ino T).dir = gv := ⟨_, rfl⟩
    rw [hgv] at HDD
    obtain ⟨S1, hS1⟩ : ∃ S1, BS.mk (br.upd S.ino T { S.ino T with dir := ldel u (S.ino T).dir }) S.used = S1 := ⟨_, rfl⟩
    rw [hS1] at HDD
    have hdl : S.drop (T : Int) u (J : Int) = S1.less (J : Int) 1 0 := by rw [drop_less, hS1]
    have h1J : S1.ino J = S.ino J := by rw [← hS1]; exact upd_other _ _ hJT
    obtain ⟨g1, g2, g3⟩ := Good_body2 hG hr J
    have hnum := hG.1.nums J
    have h9 := hb J
    have ht := hG.1.twenty J
    have HL := Lib.hid (fun w4 pl1 tag1 (h1 : DB w4 D lo RS pl1 tag1 S1 room) => q_less h1 (I := J) (by rw [h1J]; exact g1) (by rw [h1J, ← hS1]; exact g2) (by rw [← hS1]; exact g3) j1 j2 1 0 (by rw [h1J]; omega) (by rw [h1J]; omega) (by rw [h1J]; omega) (by rw [h1J]; omega) (by omega) (by omega))
    unfold RetD at HL
    rw [← hdl] at HL
    generalize S.drop (T : Int) u (J : Int) = S3 at *
    have HM := Lib.hid (fun w6 pl6 tag6 (h6 : DB w6 D lo RS pl6 tag6 S3 room) (s6 : Stp w w6 tag tag6) => mv_any (u := u) (s := s) gd h6 s6 n2 t2 i1 i2 k1 k2 e4 hm)
    unfold MvD at HM
    rw [k3] at HM
    generalize S3.move (N : Int) s (T : Int) u (I : Int) = S2 at *
    generalize hkk : (S.ino I).kind = kk at *
    have qk : (kk == 2) = false := by simpa using hk2
    have hk2' := hk2
    generalize hjj : (S.ino J).kind = jj at *
    have qj : (jj == 2) = false := by simpa using hJ2
    clear h hG hb e1 e2 e3 e4 hk tk tl hg hget hv i3 i4 i5 hNI hu hIT hget2 j3 j4 j5 hRR hJT hJ2 hrep hdr gd k1 k2 k3 hgv hS1 hdl h1J g1 g2 g3 hnum h9 ht hkk hjj hbl2
    go_enter Tryz.func67, Tryz.ntmps67
    go_wp2_with fail
    refine HD.out.mono ?_
    rintro e w3 ⟨rfl, rfl⟩
    go_wp2_with fail
    refine HG.out.mono ?_
    rintro e w3 ⟨rfl, rfl⟩
    go_wp2_with fail
    refine HT.out.mono ?_
    rintro e w3 ⟨rfl, rfl⟩
    go_wp2_with fail
    refine HN.out.mono ?_
    rintro e w4 ⟨rfl, hb4⟩
    have c0 := HC.out _ hb4
    have HB4 := Lib.hid hb4
    have cj := HJ.out _ hb4
    have HDD4 := Lib.hid (HDD.out _ hb4)
    have ST4 := Lib.hid (HB.out _ hb4)
    clear HJ HJd HDD
    clear hb4 HC HN
    have HG5 := Lib.hid (HG2.out _ HB4.out)
    clear HG2
    go_wp2_with fail
    refine HG5.out.mono ?_
    rintro e w6 ⟨rfl, hw6⟩
    subst hw6
    go_wp2_with fail
    refine HDD4.out.mono ?_
    rintro e w7 ⟨rfl, pl7, tag7, h7, s7⟩
    have HL7 := Lib.hid (HL.out _ _ _ h7)
    have ST7 := Lib.hid (ST4.out.trans s7)
    clear h7 s7 HDD4 ST4 HL
    go_wp2_with fail
    refine HL7.out.mono ?_
    rintro e w8 ⟨rfl, pl8, tag8, h8, s8⟩
    have HMV := Lib.hid (HM.out _ _ _ h8 (ST7.out.trans s8))
    clear h8 s8 HL7 ST7 HM
    go_wp2_with fail
    refine HMV.out.mono ?_
    rintro e w7 ⟨v7, rfl, hset⟩
    have HSET := Lib.hid hset
    clear hset HMV
    go_wp2_with fail
    refine HSET.out.mono ?_
    rintro e w8 ⟨v8, rfl, ⟨par, c4⟩, f4, hn1, hn2⟩
    have HX := Lib.hid (hn1 hk2')
    clear hn1 hn2 HSET
    go_wp2_with fail
    go_ret
    exact ⟨rfl, HX.out⟩
end
end Go.Proofs.YtgoddboicjfkcaaGreat.cb
