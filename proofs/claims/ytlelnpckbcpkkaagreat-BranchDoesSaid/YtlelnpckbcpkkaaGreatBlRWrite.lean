/- The document's own Write. -/
import Derived.Test.YtlelnpckbcpkkaaGreatBlRWriteM
namespace Go.Proofs.YtlelnpckbcpkkaaGreat.bl
open Go.RowKit
set_option linter.unusedVariables false
set_option linter.unusedSimpArgs false


set_option maxHeartbeats 3000000 in
set_option maxRecDepth 100000 in
theorem rwrite_any {w : World} {lo C RS room used T0 len dc : Nat} {vB vT : Value} {b : AB} {A : Option Addr} {off : Int} {f : Nat → UInt8} (h : RB w lo C vB vT b T0) (hok : b.Ok) (hs0 : StoC w RS room used) (hRS : ¬ RF C vB vT RS) (hu : b.n ≤ used) (hur : used ≤ room) (hr : room ≤ 65536)
    (hA : BytesIn w (fun x => RF C vB vT x ∨ x = RS) A len f) (hlc : len ≤ dc) (hdc : dc ≤ maxLen) (hlo : lo ≤ w.heap.size) :
    Calls Tryz.prog 103 #[Pq RS, Pq C, .int .i64 off, .slice A len dc] w (RWriteE w lo C RS room used (RF C vB vT) b off len f) := by
  obtain ⟨i0, hi, hz0, hz1, hz2⟩ := info_parts (P := Tryz.prog) (e := 5) (z := .int .u8 0) (size := 1) (bytes := 1) (by kernel_rfl)
  have HI := Lib.hid hi
  have HZ := Lib.hid (show i0.zero = some (.int .u8 0) ∧ i0.size = 1 ∧ i0.bytes = 1 from ⟨hz0, hz1, hz2⟩)
  clear hi hz0 hz1 hz2
  have hst0 := RS2.start h hs0 hRS
  have HSAME := Lib.hid (show ∀ e v, WR b used room off len 0 v → e = .returned (.tuple #[.int .i64 0, .int .i64 v]) → RWriteE w lo C RS room used (RF C vB vT) b off len f e w from fun e v h1 he => by
    have hw : wr b off 0 f = b := wrB_zero _ _ _
    refine ⟨0, v, vB, vT, T0, he, h1, ?_⟩
    rw [hw, Nat.add_sub_cancel]
    exact hst0)
  have hleni : (len : Int) ≤ 9223372036854775807 := by unfold maxLen at hdc; omega
  by_cases h0 : off < 0
  · have HP := Lib.hid (HSAME.out _ 22 (Or.inl ⟨h0, rfl, rfl⟩) rfl)
    clear h hok hs0 hRS hu hur hr hA hlc hdc hlo hst0
    go_enter Tryz.func103, Tryz.ntmps103
    go_wp2
    go_ret2
    exact HP.out
  by_cases hl0 : len = 0
  · have HP := Lib.hid (HSAME.out _ 0 (Or.inr (Or.inl ⟨by omega, hl0, rfl, rfl⟩)) rfl)
    subst hl0
    clear h hok hs0 hRS hu hur hr hA hlc hdc hlo hst0
    go_enter Tryz.func103, Tryz.ntmps103
    go_wp2
    go_ret2
    exact HP.out
  have hl1 : ((len : Int) == 0) = false := by simpa using hl0
  by_cases hs2 : 65536 ≤ off
  · have HP := Lib.hid (HSAME.out _ 27 (Or.inr (Or.inr (Or.inl ⟨hs2, by omega, rfl, rfl⟩))) rfl)
    have HL0 := Lib.hid hl0
    clear h hok hs0 hRS hu hur hr hA hlc hdc hlo hst0 hl0
    go_enter Tryz.func103, Tryz.ntmps103
    go_wp2
    go_ret2
    exact HP.out
  obtain ⟨s, hs⟩ : ∃ s : Nat, off = (s : Int) := ⟨off.toNat, by omega⟩
  obtain ⟨TT, hT⟩ : ∃ TT, TT = min len (65536 - s) := ⟨_, rfl⟩
  have HT := Lib.hid (show 0 < len ∧ TT = min len (65536 - s) ∧ TT ≤ len ∧ s + TT ≤ 65536 ∧ 0 < TT from ⟨by omega, hT, by omega, by omega, by omega⟩)
  have HOFF := Lib.hid hs
  have HA := Lib.hid hA
  have HOK := Lib.hid hok
  have HR := Lib.hid (show used ≤ room ∧ room ≤ 65536 ∧ lo ≤ w.heap.size from ⟨hur, hr, hlo⟩)
  have hroomi : (room : Int) ≤ 65536 := by omega
  have HST := Lib.hid (show RMid w w lo C RS room used s 0 b.n (RF C vB vT) vB vT b f T0 from ⟨by rw [wrB_zero, Nat.add_sub_cancel]; exact hst0, cnt_congr fun k => (thW_self b s k).symm, Nat.le_refl _, fun q hq => absurd hq (Nat.not_lt_zero _), by omega⟩)
  have hs3 : off < 65536 := by omega
  have ho0 : 0 ≤ off := by omega
  have hTi : (TT : Int) ≤ (len : Int) := by omega
  generalize hG : RF C vB vT = G at *
  have HGG := Lib.hid hG
  clear h hok hs0 hRS hu hur hr hA hlc hdc hlo hst0 hs hT HSAME hl0 hG
  go_enter Tryz.func103, Tryz.ntmps103
  go_wp2_with fail
  go_loopg [10] TT (fun g s10 wr => ∃ (p N T : Nat) (vB vT : Value), g + p = TT ∧ s10 = .int .i64 (p : Int) ∧ Hid (RMid w wr lo C RS room used s p N G vB vT b f T))
  case atStart => exact ⟨0, b.n, T0, vB, vT, by omega, rfl, HST⟩
  case round =>
    clear HST
    obtain ⟨p, N, T, vB, vT, hg, rfl, HM⟩ := hrel
    have hpi : (p : Int) ≤ 65536 := by have := HT.out; omega
    by_cases hpT : p < TT
    · obtain ⟨k, hk⟩ : ∃ k, k = (s + p) / 16 := ⟨_, rfl⟩
      have hki : (off + (p : Int)) / 16 = (k : Int) := by have := HOFF.out; omega
      have hpl : (p : Int) < (len : Int) := by omega
      have hpo : off + (p : Int) < 65536 := by have := HT.out; have := HOFF.out; omega
      have hk4 : k < 4096 := by have := HT.out; omega
      have HKE := Lib.hid hk
      have HTH := Lib.hid (there_any HM.out.r.r k)
      have HK4 := Lib.hid hk4
      clear hk hk4
      cases ht : (wrB b s p f).th k
      · rw [ht] at HTH
        have HTK := Lib.hid (show thW b s (s + p) k = false from ht)
        clear ht
        have s0 : wr.drew.cell? ⟨RS, 0, none⟩ = some (.int .i64 (room : Int)) := HM.out.r.s.c0
        obtain ⟨U, hU⟩ : ∃ U, U = used + N - b.n := ⟨_, rfl⟩
        have s1 : wr.drew.cell? ⟨RS, 1, none⟩ = some (.int .i64 (U : Int)) := by rw [hU]; exact HM.out.r.s.c1
        have f1 : wr.drew.frozen? ⟨RS, 1, none⟩ = false := HM.out.r.s.f1
        have hUr : U ≤ room := by rw [hU]; exact HM.out.rm
        have hUi : (U : Int) ≤ 65536 := by omega
        have HU := Lib.hid hU
        have HUR := Lib.hid hUr
        clear hU hUr
        by_cases hfull : U = room
        · have hfb : ((U : Int) == (room : Int)) = true := by simp; omega
          have hstop : IsStop b used room s TT p := ⟨by omega, HM.out.ok, Or.inr (by
            unfold okW usedW
            rw [← HKE.out, HTK.out, ← HM.out.n, ← HU.out]
            rintro (h | h)
            · cases h
            · omega)⟩
          have HF := Lib.hid (RMid.fin (w := w) (wr := wr.drew) ⟨HM.out.r.drew, HM.out.n, HM.out.le, HM.out.ok, HM.out.rm⟩ HOFF.out hs3 HT.out.1 HT.out.2.1 hstop)
          have HFU := Lib.hid hfull
          clear hstop hfull
          by_cases hp0 : p = 0
          · have HF0 := Lib.hid (show RWriteE w lo C RS room used G b off len f (.returned (.tuple #[.int .i64 0, .int .i64 28])) wr.drew from by
              have h := HF.out
              rw [hp0] at h
              exact h)
            have hpb : ((p : Int) == 0) = true := by simpa using hp0
            have HP0 := Lib.hid hp0
            clear hp0 HF
            go_wp2_with fail
            refine HTH.out.mono ?_
            rintro e wx ⟨rfl, rfl⟩
            clear HTH
            go_wp2_with fail
            go_region
            go_wp2_with fail
            go_ret2
            exact HF0.out
          · rw [if_neg hp0] at HF
            have hpb : ((p : Int) == 0) = false := by simpa using hp0
            have HP0 := Lib.hid hp0
            clear hp0
            go_wp2_with fail
            refine HTH.out.mono ?_
            rintro e wx ⟨rfl, rfl⟩
            clear HTH
            go_wp2_with fail
            go_region
            go_wp2_with fail
            go_ret2
            exact HF.out
        · have hfb : ((U : Int) == (room : Int)) = false := by simp; omega
          have HFU := Lib.hid hfull
          clear hfull
          go_wp2_with fail
          refine HTH.out.mono ?_
          rintro e wx ⟨rfl, rfl⟩
          clear HTH
          go_wp2_with fail
          go_region
          -- REST
          have HM2 := HM.out.r.drew.use (U + 1)
          rw [show ((U + 1 : Nat) : Int) = (U : Int) + 1 from by omega] at HM2
          have HM3 := Lib.hid HM2
          have HLAY := Lib.hid (lay_any HM2.r (k := k) HK4.out (Nat.le_trans HR.out.2.2 HM2.o.size))
          clear HM2
          go_wp2_with fail
          refine HLAY.out.mono ?_
          rintro e w3 ⟨rfl, vT1, T1, hst⟩
          have hx := HM3.out.body hst
          obtain ⟨th1, hth1⟩ : ∃ th1, th1 = thW b s (s + (p + 1)) := ⟨_, rfl⟩
          obtain ⟨Z, hZ⟩ : ∃ Z, Z = (wrB b s p f).size := ⟨_, rfl⟩
          obtain ⟨D, hD⟩ : ∃ D, D = (wrB b s p f).dat := ⟨_, rfl⟩
          have hok1 := wrB_ok HOK.out (s := s) (p := p) (by have := HT.out; omega) f
          have HZB := Lib.hid (show Z ≤ 65536 ∧ s + p + 1 ≤ 65536 from ⟨by rw [hZ]; exact hok1.size, by have := HT.out; omega⟩)
          have HDZ := Lib.hid (show ∀ i, Z ≤ i → D i = 0 from fun i hi => by rw [hD]; exact hok1.dat i (by rw [← hZ]; exact hi))
          have HZE := Lib.hid hZ
          have HDE := Lib.hid hD
          have HTE := Lib.hid hth1
          have hte : updB (wrB b s p f).th k true = th1 := by
            rw [hth1]
            funext x
            exact (thW_step HKE.out.symm (by omega) (by have := HKE.out; omega) x).symm
          obtain ⟨U1, hU1⟩ : ∃ U1, U1 = U + 1 := ⟨_, rfl⟩
          obtain ⟨N1, hN1⟩ : ∃ N1, N1 = N + 1 := ⟨_, rfl⟩
          have HNN := Lib.hid (show N1 = cnt 4096 (thW b s (s + (p + 1))) ∧ b.n ≤ N1 ∧ U1 = used + N1 - b.n ∧ U1 ≤ room from ⟨by
            rw [← hth1, ← hte, hN1, HM.out.n]; exact (cnt_add HK4.out HTK.out).symm, by have := HM.out.le; omega, by have := HM.out.le; have := HU.out; omega, by have := HUR.out; have := HFU.out; omega⟩)
          have HOQ := Lib.hid (show ∀ q, q < p + 1 → okW b used room s q from fun q hq => by
            by_cases h1 : q < p
            · exact HM.out.ok q h1
            · obtain rfl : q = p := by omega
              refine Or.inr ?_
              unfold usedW
              rw [← HM.out.n, ← HU.out]
              have := HUR.out; have := HFU.out; omega)
          rw [hte, ← hZ, ← hD, ← hU1] at hx
          have HX := Lib.hid hx
          clear hx hst HLAY HM3 hte hok1 hth1 hZ hD hU1 hN1 s0 s1 f1
          go_wp2_with fail
          go_loopg [57] (s + p + 1) (fun g s57 wr => ∃ (m : Nat) (v : Value), s + p + 1 ≤ g + m ∧ Z ≤ m ∧ m ≤ max Z (s + p + 1) ∧ Hid (RS2 w wr lo C RS room U1 G v vT1 ⟨m, th1, D⟩ T1))
          case atStart => exact ⟨Z, _, by omega, by omega, by omega, HX⟩
          case round =>
            clear HX
            obtain ⟨m, v, hgm, hmZ, hmM, HS⟩ := hrel
            obtain ⟨Ab, cb, rfl⟩ := own_slice HS.out.r.rB
            have c0 : wr.cell? ⟨C, 0, none⟩ = some (.slice Ab m cb) := HS.out.r.c0
            have g0 := HS.out.r.f0
            have hC : C < wr.heap.size := World.block_lt_of_cell? wr _ c0
            have hmi : (m : Int) ≤ 65536 := by have := HZB.out; omega
            by_cases hlt : m ≤ s + p
            · have hlti : (m : Int) ≤ off + (p : Int) := by have := HOFF.out; omega
              have HRF := Lib.hid (show ∀ w3, (wr.alloc (.cells #[.int .u8 0] 5)).grownBy w3 (Value.slice Ab m cb).ownBlock → w3.cell? ⟨C, 0, none⟩ = some (.slice Ab m cb) ∧ w3.frozen? ⟨C, 0, none⟩ = false from fun w3 hgr => by
                have ho1 : Only (fun x => (Value.slice Ab m cb).ownBlock = some x) wr w3 := (Only.of_below (below_one wr _)).trans (grown_only hgr)
                have h3 : w3.heap[C]? = wr.heap[C]? := ho1.block C hC HS.out.r.nB
                exact ⟨(World.cell?_of_block (a := ⟨C, 0, none⟩) h3).trans c0, (World.frozen?_of_block (a := ⟨C, 0, none⟩) h3).trans g0⟩)
              have HLO2 := Lib.hid (Nat.le_trans HR.out.2.2 HS.out.o.size)
              have HD0 := Lib.hid (HDZ.out m hmZ)
              go_wp2_with (at_builtin; refine wpList_append_lies _ rfl (.tmp 68) (.tmp 69) 40 rfl lo 5 i0 _ 1 1 Tryz.underlying40 HI.out HZ.out.1 HZ.out.2.1 HZ.out.2.2 rfl (by decide) (.slice Ab m cb) m (rowF m D) rfl (HS.out.r.rB.alloc _) ⟨wr.heap.size, 0, none⟩ 1 1 [U8 0] rfl rfl (cell_new1 _ _ _) (by intro u hu; simp at hu; subst hu; rfl) (by decide) (by unfold maxLen; omega) (by omega) (by have := HLO2.out; simp; omega) (wr.heap.size + 1) (by simp) ?_; intro gg cap w3 hown1 hgrow1 hat1 hlt1; have d1 := (HRF.out w3 hgrow1).1; have d2 := (HRF.out w3 hgrow1).2)
              have HS2 := Lib.hid (HS.out.body (HS.out.r.growB (b := ⟨m, th1, D⟩) HD0.out hown1 hgrow1 hat1))
              clear hown1 hgrow1 hat1 hlt1
              go_roundg (gk - 1)
              case measure => omega
              case rel => exact ⟨m + 1, _, by omega, by omega, by omega, HS2⟩
            · have hlti : ¬ ((m : Int) ≤ off + (p : Int)) := by have := HOFF.out; omega
              have hmx : m = max Z (s + p + 1) := by omega
              have HSd := Lib.hid HS.out.drew
              obtain ⟨db, dof, rfl, _, hdl, hdc⟩ := (HA.out.only HSd.out.o) p (by have := HT.out; omega)
              obtain ⟨g', c', he, _, hgl, hc⟩ := own_val HSd.out.r.rB (rowF_get D (L := m) (j := s + p) (by omega)) (by show s + p < m; omega)
              injection he with he1 he2
              subst he1
              have hfz := own_fro HSd.out.r.rB (s + p)
              have c0d : wr.drew.cell? ⟨C, 0, none⟩ = some (.slice (some ⟨g', 0, none⟩) m cb) := c0
              have hq : (off + (p : Int)).toNat = s + p := by have := HOFF.out; omega
              have hqm : off + (p : Int) < (m : Int) := by omega
              have HW := Lib.hid (show ∀ W, W = wr.drew.setCell ⟨g', s + p, none⟩ (U8 (f p)) → RMid w W lo C RS room used s (p + 1) N1 G (.slice (some ⟨g', 0, none⟩) m cb) vT1 b f T1 from fun W hW => by
                subst hW
                have h1 := HSd.out.body (HSd.out.r.setB (b := ⟨m, th1, D⟩) (n := m) (k := s + p) rfl (by omega) (f p))
                have hE : (⟨m, th1, updD D (s + p) (f p)⟩ : AB) = wrB b s (p + 1) f := by
                  apply AB_ext
                  · show m = _
                    rw [hmx, HZE.out]
                    unfold wrB
                    dsimp only
                    split <;> (try split) <;> omega
                  · intro x; rw [HTE.out]; rfl
                  · intro i
                    show updD D (s + p) (f p) i = over b.dat s (p + 1) f i
                    rw [HDE.out]
                    unfold updD wrB over
                    dsimp only
                    by_cases e : i = s + p
                    · subst e; rw [if_pos rfl, if_pos (by omega)]; congr 1; omega
                    · rw [if_neg e]
                      by_cases h2 : s ≤ i ∧ i < s + p
                      · rw [if_pos h2, if_pos (by omega)]
                      · rw [if_neg h2, if_neg (by omega)]
                rw [hE, HNN.out.2.2.1] at h1
                exact ⟨h1, HNN.out.1, HNN.out.2.1, HOQ.out, by rw [← HNN.out.2.2.1]; exact HNN.out.2.2.2⟩)
              unfold U8 at hdc hc HW
              generalize f p = fp at *
              generalize D (s + p) = dp at *
              clear hmx
              go_wp2_with fail
              go_region
              go_wp2_with fail
              go_roundg (TT - (p + 1))
              case measure => omega
              case rel => exact ⟨p + 1, N1, T1, _, _, by omega, by go_num, Lib.hid (HW.out _ rfl)⟩
      · rw [ht] at HTH
        have HTK := Lib.hid (show thW b s (s + p) k = true from ht)
        clear ht
        go_wp2_with fail
        refine HTH.out.mono ?_
        rintro e wx ⟨rfl, rfl⟩
        clear HTH
        have hx := HM.out.r
        obtain ⟨th1, hth1⟩ : ∃ th1, th1 = thW b s (s + (p + 1)) := ⟨_, rfl⟩
        obtain ⟨Z, hZ⟩ : ∃ Z, Z = (wrB b s p f).size := ⟨_, rfl⟩
        obtain ⟨D, hD⟩ : ∃ D, D = (wrB b s p f).dat := ⟨_, rfl⟩
        have hok1 := wrB_ok HOK.out (s := s) (p := p) (by have := HT.out; omega) f
        have HZB := Lib.hid (show Z ≤ 65536 ∧ s + p + 1 ≤ 65536 from ⟨by rw [hZ]; exact hok1.size, by have := HT.out; omega⟩)
        have HDZ := Lib.hid (show ∀ i, Z ≤ i → D i = 0 from fun i hi => by rw [hD]; exact hok1.dat i (by rw [← hZ]; exact hi))
        have HZE := Lib.hid hZ
        have HDE := Lib.hid hD
        have HTE := Lib.hid hth1
        have hte : (wrB b s p f).th = th1 := by
          rw [hth1]
          funext x
          rw [thW_step HKE.out.symm (by omega) (by have := HKE.out; omega) x]
          unfold updB
          by_cases e : x = k
          · rw [if_pos e, e]; exact HTK.out
          · rw [if_neg e]; rfl
        obtain ⟨U1, hU1⟩ : ∃ U1, U1 = used + N - b.n := ⟨_, rfl⟩
        obtain ⟨N1, hN1⟩ : ∃ N1, N1 = N := ⟨_, rfl⟩
        obtain ⟨T1, hT1⟩ : ∃ T1, T1 = T := ⟨_, rfl⟩
        obtain ⟨vT1, hvT1⟩ : ∃ vT1, vT1 = vT := ⟨_, rfl⟩
        have HNN := Lib.hid (show N1 = cnt 4096 (thW b s (s + (p + 1))) ∧ b.n ≤ N1 ∧ U1 = used + N1 - b.n ∧ U1 ≤ room from ⟨by
          rw [← hth1, ← hte, hN1]; exact HM.out.n, by rw [hN1]; exact HM.out.le, by rw [hN1]; exact hU1, by rw [hU1]; exact HM.out.rm⟩)
        have HOQ := Lib.hid (show ∀ q, q < p + 1 → okW b used room s q from fun q hq => by
          by_cases h1 : q < p
          · exact HM.out.ok q h1
          · obtain rfl : q = p := by omega
            refine Or.inl ?_
            rw [← HKE.out]; exact HTK.out)
        have hx2 : RS2 w wr lo C RS room U1 G vB vT1 ⟨Z, th1, D⟩ T1 := by
          rw [hU1, hvT1, hT1, hZ, hD, ← hte]; exact hx
        have HX := Lib.hid hx2
        clear hx hx2 hte hok1 hth1 hZ hD hU1 hN1 hT1 hvT1
        go_wp2_with fail
        go_loopg [57] (s + p + 1) (fun g s57 wr => ∃ (m : Nat) (v : Value), s + p + 1 ≤ g + m ∧ Z ≤ m ∧ m ≤ max Z (s + p + 1) ∧ Hid (RS2 w wr lo C RS room U1 G v vT1 ⟨m, th1, D⟩ T1))
        case atStart => exact ⟨Z, _, by omega, by omega, by omega, HX⟩
        case round =>
          clear HX
          obtain ⟨m, v, hgm, hmZ, hmM, HS⟩ := hrel
          obtain ⟨Ab, cb, rfl⟩ := own_slice HS.out.r.rB
          have c0 : wr.cell? ⟨C, 0, none⟩ = some (.slice Ab m cb) := HS.out.r.c0
          have g0 := HS.out.r.f0
          have hC : C < wr.heap.size := World.block_lt_of_cell? wr _ c0
          have hmi : (m : Int) ≤ 65536 := by have := HZB.out; omega
          by_cases hlt : m ≤ s + p
          · have hlti : (m : Int) ≤ off + (p : Int) := by have := HOFF.out; omega
            have HRF := Lib.hid (show ∀ w3, (wr.alloc (.cells #[.int .u8 0] 5)).grownBy w3 (Value.slice Ab m cb).ownBlock → w3.cell? ⟨C, 0, none⟩ = some (.slice Ab m cb) ∧ w3.frozen? ⟨C, 0, none⟩ = false from fun w3 hgr => by
              have ho1 : Only (fun x => (Value.slice Ab m cb).ownBlock = some x) wr w3 := (Only.of_below (below_one wr _)).trans (grown_only hgr)
              have h3 : w3.heap[C]? = wr.heap[C]? := ho1.block C hC HS.out.r.nB
              exact ⟨(World.cell?_of_block (a := ⟨C, 0, none⟩) h3).trans c0, (World.frozen?_of_block (a := ⟨C, 0, none⟩) h3).trans g0⟩)
            have HLO2 := Lib.hid (Nat.le_trans HR.out.2.2 HS.out.o.size)
            have HD0 := Lib.hid (HDZ.out m hmZ)
            go_wp2_with (at_builtin; refine wpList_append_lies _ rfl (.tmp 68) (.tmp 69) 40 rfl lo 5 i0 _ 1 1 Tryz.underlying40 HI.out HZ.out.1 HZ.out.2.1 HZ.out.2.2 rfl (by decide) (.slice Ab m cb) m (rowF m D) rfl (HS.out.r.rB.alloc _) ⟨wr.heap.size, 0, none⟩ 1 1 [U8 0] rfl rfl (cell_new1 _ _ _) (by intro u hu; simp at hu; subst hu; rfl) (by decide) (by unfold maxLen; omega) (by omega) (by have := HLO2.out; simp; omega) (wr.heap.size + 1) (by simp) ?_; intro gg cap w3 hown1 hgrow1 hat1 hlt1; have d1 := (HRF.out w3 hgrow1).1; have d2 := (HRF.out w3 hgrow1).2)
            have HS2 := Lib.hid (HS.out.body (HS.out.r.growB (b := ⟨m, th1, D⟩) HD0.out hown1 hgrow1 hat1))
            clear hown1 hgrow1 hat1 hlt1
            go_roundg (gk - 1)
            case measure => omega
            case rel => exact ⟨m + 1, _, by omega, by omega, by omega, HS2⟩
          · have hlti : ¬ ((m : Int) ≤ off + (p : Int)) := by have := HOFF.out; omega
            have hmx : m = max Z (s + p + 1) := by omega
            have HSd := Lib.hid HS.out.drew
            obtain ⟨db, dof, rfl, _, hdl, hdc⟩ := (HA.out.only HSd.out.o) p (by have := HT.out; omega)
            obtain ⟨g', c', he, _, hgl, hc⟩ := own_val HSd.out.r.rB (rowF_get D (L := m) (j := s + p) (by omega)) (by show s + p < m; omega)
            injection he with he1 he2
            subst he1
            have hfz := own_fro HSd.out.r.rB (s + p)
            have c0d : wr.drew.cell? ⟨C, 0, none⟩ = some (.slice (some ⟨g', 0, none⟩) m cb) := c0
            have hq : (off + (p : Int)).toNat = s + p := by have := HOFF.out; omega
            have hqm : off + (p : Int) < (m : Int) := by omega
            have HW := Lib.hid (show ∀ W, W = wr.drew.setCell ⟨g', s + p, none⟩ (U8 (f p)) → RMid w W lo C RS room used s (p + 1) N1 G (.slice (some ⟨g', 0, none⟩) m cb) vT1 b f T1 from fun W hW => by
              subst hW
              have h1 := HSd.out.body (HSd.out.r.setB (b := ⟨m, th1, D⟩) (n := m) (k := s + p) rfl (by omega) (f p))
              have hE : (⟨m, th1, updD D (s + p) (f p)⟩ : AB) = wrB b s (p + 1) f := by
                apply AB_ext
                · show m = _
                  rw [hmx, HZE.out]
                  unfold wrB
                  dsimp only
                  split <;> (try split) <;> omega
                · intro x; rw [HTE.out]; rfl
                · intro i
                  show updD D (s + p) (f p) i = over b.dat s (p + 1) f i
                  rw [HDE.out]
                  unfold updD wrB over
                  dsimp only
                  by_cases e : i = s + p
                  · subst e; rw [if_pos rfl, if_pos (by omega)]; congr 1; omega
                  · rw [if_neg e]
                    by_cases h2 : s ≤ i ∧ i < s + p
                    · rw [if_pos h2, if_pos (by omega)]
                    · rw [if_neg h2, if_neg (by omega)]
              rw [hE, HNN.out.2.2.1] at h1
              exact ⟨h1, HNN.out.1, HNN.out.2.1, HOQ.out, by rw [← HNN.out.2.2.1]; exact HNN.out.2.2.2⟩)
            unfold U8 at hdc hc HW
            generalize f p = fp at *
            generalize D (s + p) = dp at *
            clear hmx
            go_wp2_with fail
            go_region
            go_wp2_with fail
            go_roundg (TT - (p + 1))
            case measure => omega
            case rel => exact ⟨p + 1, N1, T1, _, _, by omega, by go_num, Lib.hid (HW.out _ rfl)⟩
    · have hpE : p = TT := by omega
      have HF := Lib.hid (RMid.fin HM.out HOFF.out hs3 HT.out.1 HT.out.2.1 ⟨by omega, HM.out.ok, Or.inl hpE⟩)
      rw [if_neg (by have := HT.out; omega)] at HF
      have hpb : ((p : Int) == 0) = false := by have := HT.out; simp; omega
      have key : ¬ ((p : Int) < (len : Int)) ∨ ((p : Int) < (len : Int) ∧ ¬ (off + (p : Int) < 65536)) := by have := HT.out; have := HOFF.out; omega
      have HPE := Lib.hid hpE
      clear hpE hpT
      rcases key with hk | ⟨hk, hk2⟩
      · go_wp2_with fail
        go_ret2
        exact HF.out
      · go_wp2_with fail
        go_ret2
        exact HF.out
end Go.Proofs.YtlelnpckbcpkkaaGreat.bl
