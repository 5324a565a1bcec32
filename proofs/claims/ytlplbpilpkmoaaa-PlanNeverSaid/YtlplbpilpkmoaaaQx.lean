/- The document's 'Wants'. -/
import Derived.Test.YtlplbpilpkmoaaaQw
import Derived.Deep.CutBlock
namespace Go.Proofs.Ytlplbpilpkmoaaa.pl
open Go.RowKit
set_option linter.unusedVariables false
set_option linter.unusedSimpArgs false

def ROrdE (w : World) (l : List Wt) (e : Ending) (w' : World) : Prop := ∃ v o, e = .returned v ∧ IsOrd l o ∧ OW w' w.heap.size 63 v o ∧ Below w.heap.size w w'
theorem rorder_own {w : World} {lo E : Nat} {v : Value} {l : List Wt} (h : OW w lo E v l) (l1 : l.length ≤ 1000000) : Calls Try.prog 12 #[v] w (ROrdE w l) := by
  obtain ⟨A, c, rfl⟩ := h.form
  exact rorder_any h.wan l1
theorem rkind_own (c : Cx) (w : World) : Calls Try.prog 17 #[.agg #[.int .i64 c.op, .int .i64 c.fd, .int .i64 c.fl, .int .i64 c.n, .int .i64 c.off, .string c.a, .string c.b]] w (fun e w' => e = .returned (.int .i64 c.kind) ∧ Below w.heap.size w w') := rkind_any c w
set_option maxRecDepth 100000 in
set_option maxHeartbeats 4000000 in
theorem rwants_any {w : World} {c : Cx} {A1 : Option Addr} {at_ : List Int} {file : Int} {c1 : Nat} (h1 : Ivs w w.heap.size A1 at_) (l1 : at_.length ≤ 1000) :
    Calls Try.prog 19 #[c.v, .slice A1 at_.length c1, .int .i64 file] w (ROrdE w (wantsL c at_ file)) := by
  have H1 := Lib.hid h1
  have HLL := Lib.hid (wantsL_len c at_ file)
  obtain ⟨n, hn⟩ : ∃ n, at_.length = n := ⟨_, rfl⟩
  have HWL := Lib.hid (show wantsL c at_ file = dirs c at_ n ++ (if file ≠ 0 then [⟨n, file, c.wf⟩] else []) from by unfold wantsL; rw [hn])
  have HDW := Lib.hid (show ∀ i, dirW c at_ i = ⟨i, at_.getD i 0, lastW c n i⟩ from fun i => by unfold dirW; rw [hn])
  rw [hn] at l1 HLL ⊢
  have HN := Lib.hid hn
  obtain ⟨i0, hi, hz0, hz1, hz2⟩ := info_parts info_r
  have HI := Lib.hid hi
  have HZ := Lib.hid (show i0.zero = some (Wv ⟨0, 0, false⟩) ∧ i0.size = 3 ∧ i0.bytes = 24 from ⟨hz0, hz1, hz2⟩)
  clear h1 hn hi hz0 hz1 hz2
  have HBX := Lib.hid (cbox_new w c)
  obtain ⟨w0, hw0⟩ : ∃ w0, w.alloc (.cells c.cells 32) = w0 := ⟨_, rfl⟩
  have HB0 := Lib.hid (show Below w.heap.size w w0 from by rw [← hw0]; exact hp.below_alloc _ _)
  have HS0 := Lib.hid (show w.heap.size + 1 ≤ w0.heap.size from by rw [← hw0]; simp)
  rw [hw0] at HBX
  unfold Cx.cells at hw0
  go_enter Try.func19, Try.ntmps19
  go_wp2_with fail
  clear hw0
  go_loopg [7, 8] n (fun gk u7 u8 wx => ∃ i : Nat, u8 = .int .i64 i ∧ gk + i = n ∧ Hid (OW wx (w.heap.size + 1) 63 u7 (dirs c at_ i)) ∧ Hid (CBox wx w.heap.size c) ∧ Hid (Below w.heap.size w wx))
  case atStart =>
    refine ⟨0, rfl, by omega, Lib.hid ?_, Lib.hid (HBX.out.below (hp.below_alloc _ _)), Lib.hid (HB0.out.alloc HB0.out.size _)⟩
    exact World.ownsRow_lit w0 #[] 0 HS0.out (by unfold maxLen; omega) rfl
  case round =>
    clear HBX HB0 HS0
    obtain ⟨i, rfl, hg, HO, HX, HB⟩ := hrel
    obtain ⟨gJ, hJ⟩ : ∃ g, gk = g := ⟨_, rfl⟩
    have HSW := Lib.hid (show w.heap.size + 1 ≤ wr.heap.size from HX.out.1)
    by_cases hi : i < n
    · have hi2 : (i : Int) < (n : Int) := by omega
      obtain ⟨g1, o1, rfl, hg1, x1⟩ := (H1.out.below HB.out) i (by rw [HN.out]; exact hi)
      have HDS := Lib.hid (dirs_succ c at_ i)
      rw [HDW.out i] at HDS
      have HLW := Lib.hid (show lastW c n i = (decide (c.op = 17) || (decide (i + 1 = n) && decide (c.kind = 2))) from rfl)
      obtain ⟨a, hea⟩ : ∃ a, at_.getD i 0 = a := ⟨_, rfl⟩
      rw [hea] at x1 HDS
      obtain ⟨b, hb⟩ : ∃ b, lastW c n i = b := ⟨_, rfl⟩
      rw [hb] at HDS HLW
      clear hea hb
      go_upto_region 6 with fail
      obtain ⟨w3, hw3⟩ : ∃ w3, wr.alloc (.cells #[.int .i64 i, .int .i64 a, .bool false] 63) = w3 := ⟨_, rfl⟩
      rw [hw3]
      have hal : Below wr.heap.size wr w3 := by rw [← hw3]; exact hp.below_alloc _ _
      have HS3 := Lib.hid (show w3.heap.size = wr.heap.size + 1 from by rw [← hw3]; simp)
      have HOLT := Lib.hid (fun g (e : u7.ownBlock = some g) => (HO.out.olt e).2)
      have HO3 := Lib.hid (HO.out.keep (w' := w3) fun g e => hal.block g (HO.out.olt e).2)
      have HX3 := Lib.hid (HX.out.below hal)
      have HB3 := Lib.hid (hp.below_step HB.out hal)
      have HZ3 := Lib.hid (show ∀ j, w3.cell? ⟨wr.heap.size, j, none⟩ = #[Value.int .i64 i, .int .i64 a, .bool false][j]? from fun j => by rw [← hw3]; exact World.cell?_alloc_new _ _ _ _)
      have HZF := Lib.hid (show ∀ j, w3.frozen? ⟨wr.heap.size, j, none⟩ = false from fun j => by rw [← hw3]; simp)
      obtain ⟨k0, k1, k2, k3, k4, k5, k6⟩ := HX3.out.all
      clear hal hw3 HO HX HB
      go_cut [38] (fun v wx => v = .bool b ∧ Hid (Below w3.heap.size w3 wx))
      case first =>
        by_cases el : i + 1 = n
        · have hl : (n : Int) - 1 = (i : Int) := by omega
          have HK := Lib.hid (fun W => rkind_own c W)
          obtain ⟨kd, hkd⟩ : ∃ kd, c.kind = kd := ⟨_, rfl⟩
          rw [hkd] at HK
          have HKD := Lib.hid hkd
          clear hkd
          go_wp2_with fail
          refine (HK.out _).mono ?_
          rintro _ w4 ⟨rfl, hb4⟩
          have HB4 := Lib.hid hb4
          have j0 := (hb4.cell (p := ⟨w.heap.size, 0, none⟩) HX3.out.1).trans k0
          by_cases e2 : kd = 2
          · have q2 : (kd == 2) = true := by simpa using e2
            have HV := Lib.hid (show b = true from by rw [HLW.out, HKD.out]; simp [el, e2])
            clear e2 el hb4 HK
            go_wp2_with fail
            go_meet
            case rel => exact ⟨by rw [HV.out], HB4⟩
          · have q2 : (kd == 2) = false := by simpa using e2
            have HV := Lib.hid (show b = (c.op == 17) from by rw [HLW.out, HKD.out]; simp [e2]; rfl)
            clear e2 el hb4 HK
            go_wp2_with fail
            go_meet
            case rel => exact ⟨by rw [HV.out], HB4⟩
        · have hl : ((i : Int) == (n : Int) - 1) = false := by rw [Bool.eq_false_iff]; intro e; apply el; simp at e; omega
          have HV := Lib.hid (show b = (c.op == 17) from by rw [HLW.out]; simp [el]; rfl)
          clear el
          go_wp2_with fail
          go_meet
          case rel => exact ⟨by rw [HV.out], Lib.hid (Below.refl _ _)⟩
      case rest =>
        obtain ⟨rfl, HBC⟩ := hcut
        have HOL := Lib.hid (fun g (e : u7.ownBlock = some g) => (show g < wr.heap.size from HOLT.out g e))
        cases b
        · have hsz := HBC.out.size
          have z0 := (HBC.out.cell (p := ⟨wr.heap.size, 0, none⟩) (by rw [HS3.out]; exact Nat.lt_succ_self _)).trans (HZ3.out 0)
          have z1 := (HBC.out.cell (p := ⟨wr.heap.size, 1, none⟩) (by rw [HS3.out]; exact Nat.lt_succ_self _)).trans (HZ3.out 1)
          have z2 := (HBC.out.cell (p := ⟨wr.heap.size, 2, none⟩) (by rw [HS3.out]; exact Nat.lt_succ_self _)).trans (HZ3.out 2)
          have zf := (HBC.out.frozen (p := ⟨wr.heap.size, 2, none⟩) (by rw [HS3.out]; exact Nat.lt_succ_self _)).trans (HZF.out 2)
          simp only [List.getElem?_toArray, List.getElem?_cons_zero, List.getElem?_cons_succ] at z0 z1 z2
          obtain ⟨wd, hwd⟩ : ∃ wd, wc = wd := ⟨_, rfl⟩
          have hkp : ∀ k, k < wr.heap.size → wd.heap[k]? = w3.heap[k]? := by rw [← hwd]; exact fun k hk => (HBC.out.block k (by rw [HS3.out]; omega))
          have hzd : w3.heap.size ≤ wd.heap.size := by rw [← hwd]; simpa [World.setCell] using hsz
          have HOC := Lib.hid (HO3.out.keep (w' := wd) fun g e => hkp g (HOL.out g e))
          have HXC := Lib.hid (HX3.out.of_block (w' := wd) hzd (hkp _ (by have := HSW.out; omega)))
          have HBB := Lib.hid (show Below w.heap.size w wd from by rw [← hwd]; exact hp.below_step HB3.out HBC.out)
          have HSC := Lib.hid (show w.heap.size + 1 ≤ wd.heap.size from by have := HSW.out; have := HS3.out; omega)
          have HOW := Lib.hid (show wd.ownsRow (w.heap.size + 1) 63 3 u7 i (encW (dirs c at_ i)) from by have := HOC.out; unfold OW at this; rw [dirs_len] at this; exact this)
          subst hwd
          clear HO3 HX3 HB3 HBC HOC k0 k1 k2 k3 k4 k5 k6 hkp hzd hsz
          go_wp2_with (at_builtin; go_loud (refine wpList_append_own_at _ rfl (.tmp 40) (.tmp 42) 26 rfl (w.heap.size + 1) 63 i0 _ 3 24 Try.underlying26 HI.out HZ.out.1 HZ.out.2.1 HZ.out.2.2 rfl (by decide) u7 i (encW (dirs c at_ i)) rfl (HOW.out.alloc _) ⟨wc.heap.size, 0, none⟩ 1 1 [.int .i64 i, .int .i64 a, .bool false] rfl rfl (World.news_of_block (cs := #[.int .i64 i, .int .i64 a, .bool false]) (t := 63) (fr := (0, 0)) (heap_alloc_new wc _)) (by intro u hu; simp at hu; rcases hu with rfl | rfl | rfl <;> rfl) (by unfold maxLen; omega) (by omega) (by have := HSC.out; simp; omega) ?_; intro v1 w5 hown1 hgrow1 _ hat1))
          have hz : (wc.alloc (.cells #[.int .i64 i, .int .i64 a, .bool false] 63)).heap.size = wc.heap.size + 1 := by simp
          have HB5 := Lib.hid ((HBB.out.alloc HBB.out.size _).grown hgrow1 (by rw [hz]; have := HSC.out; omega) (fun g e => by have := (HOW.out.lt g e).1; omega))
          have HX5 := Lib.hid (HXC.out.of_block (w' := w5) (by have := hgrow1.size; omega) ((hgrow1.block w.heap.size (by rw [hz]; have := HSC.out; omega) (fun e => by have := (HOW.out.lt _ e.symm).1; omega)).trans ((hp.below_alloc wc _).block _ HXC.out.1)))
          have HO5 := Lib.hid (show OW w5 (w.heap.size + 1) 63 v1 (dirs c at_ (i + 1)) from by
            unfold OW
            rw [HDS.out, List.length_append, dirs_len, encW_app]
            exact hown1)
          clear hown1 hgrow1 hat1 hz
          go_roundg (gJ - 1)
          case measure => omega
          case rel => exact ⟨i + 1, by go_num, by omega, HO5, HX5, HB5⟩
        · have hsz := HBC.out.size
          have z0 := (HBC.out.cell (p := ⟨wr.heap.size, 0, none⟩) (by rw [HS3.out]; exact Nat.lt_succ_self _)).trans (HZ3.out 0)
          have z1 := (HBC.out.cell (p := ⟨wr.heap.size, 1, none⟩) (by rw [HS3.out]; exact Nat.lt_succ_self _)).trans (HZ3.out 1)
          have z2 := (HBC.out.cell (p := ⟨wr.heap.size, 2, none⟩) (by rw [HS3.out]; exact Nat.lt_succ_self _)).trans (HZ3.out 2)
          have zf := (HBC.out.frozen (p := ⟨wr.heap.size, 2, none⟩) (by rw [HS3.out]; exact Nat.lt_succ_self _)).trans (HZF.out 2)
          simp only [List.getElem?_toArray, List.getElem?_cons_zero, List.getElem?_cons_succ] at z0 z1 z2
          obtain ⟨wd, hwd⟩ : ∃ wd, (wc.setCell ⟨wr.heap.size, 2, none⟩ (.bool true)) = wd := ⟨_, rfl⟩
          have y0 : wd.cell? ⟨wr.heap.size, 0, none⟩ = some (.int .i64 i) := by rw [← hwd, World.cell?_setCell_other _ _ _ _ (fun e => by have := congrArg Addr.off e; simp at this)]; exact z0
          have y1 : wd.cell? ⟨wr.heap.size, 1, none⟩ = some (.int .i64 a) := by rw [← hwd, World.cell?_setCell_other _ _ _ _ (fun e => by have := congrArg Addr.off e; simp at this)]; exact z1
          have y2 : wd.cell? ⟨wr.heap.size, 2, none⟩ = some (.bool true) := by rw [← hwd, World.cell?_setCell_same _ _ _ z2]
          have hkp : ∀ k, k < wr.heap.size → wd.heap[k]? = w3.heap[k]? := by rw [← hwd]; exact fun k hk => (Below.heap_setCell _ _ _ _ (by show ¬ (k = wr.heap.size); omega)).trans (HBC.out.block k (by rw [HS3.out]; omega))
          have hzd : w3.heap.size ≤ wd.heap.size := by rw [← hwd]; simpa [World.setCell] using hsz
          have HOC := Lib.hid (HO3.out.keep (w' := wd) fun g e => hkp g (HOL.out g e))
          have HXC := Lib.hid (HX3.out.of_block (w' := wd) hzd (hkp _ (by have := HSW.out; omega)))
          have HBB := Lib.hid (show Below w.heap.size w wd from by rw [← hwd]; exact (hp.below_step HB3.out HBC.out).setCell (by have := HSW.out; show w.heap.size ≤ wr.heap.size; omega) _)
          have HSC := Lib.hid (show w.heap.size + 1 ≤ wd.heap.size from by have := HSW.out; have := HS3.out; omega)
          have HOW := Lib.hid (show wd.ownsRow (w.heap.size + 1) 63 3 u7 i (encW (dirs c at_ i)) from by have := HOC.out; unfold OW at this; rw [dirs_len] at this; exact this)
          clear HO3 HX3 HB3 HBC HOC k0 k1 k2 k3 k4 k5 k6 hkp hzd hsz
          go_wp2_with (at_builtin; go_loud (refine wpList_append_own_at _ rfl (.tmp 40) (.tmp 42) 26 rfl (w.heap.size + 1) 63 i0 _ 3 24 Try.underlying26 HI.out HZ.out.1 HZ.out.2.1 HZ.out.2.2 rfl (by decide) u7 i (encW (dirs c at_ i)) rfl (HOW.out.alloc _) ⟨wd.heap.size, 0, none⟩ 1 1 [.int .i64 i, .int .i64 a, .bool true] rfl rfl (World.news_of_block (cs := #[.int .i64 i, .int .i64 a, .bool true]) (t := 63) (fr := (0, 0)) (heap_alloc_new wd _)) (by intro u hu; simp at hu; rcases hu with rfl | rfl | rfl <;> rfl) (by unfold maxLen; omega) (by omega) (by have := HSC.out; simp; omega) ?_; intro v1 w5 hown1 hgrow1 _ hat1))
          have hz : (wd.alloc (.cells #[.int .i64 i, .int .i64 a, .bool true] 63)).heap.size = wd.heap.size + 1 := by simp
          have HB5 := Lib.hid ((HBB.out.alloc HBB.out.size _).grown hgrow1 (by rw [hz]; have := HSC.out; omega) (fun g e => by have := (HOW.out.lt g e).1; omega))
          have HX5 := Lib.hid (HXC.out.of_block (w' := w5) (by have := hgrow1.size; omega) ((hgrow1.block w.heap.size (by rw [hz]; have := HSC.out; omega) (fun e => by have := (HOW.out.lt _ e.symm).1; omega)).trans ((hp.below_alloc wd _).block _ HXC.out.1)))
          have HO5 := Lib.hid (show OW w5 (w.heap.size + 1) 63 v1 (dirs c at_ (i + 1)) from by
            unfold OW
            rw [HDS.out, List.length_append, dirs_len, encW_app]
            exact hown1)
          clear hown1 hgrow1 hat1 hz
          go_roundg (gJ - 1)
          case measure => omega
          case rel => exact ⟨i + 1, by go_num, by omega, HO5, HX5, HB5⟩
    · have hin : i = n := by omega
      subst hin
      by_cases hf : file = 0
      · subst hf
        have HWE := Lib.hid (show wantsL c at_ 0 = dirs c at_ i from by rw [HWL.out]; simp)
        have HOR := Lib.hid (rorder_own HO.out (by rw [dirs_len]; omega))
        go_wp2_with fail
        refine HOR.out.mono ?_
        rintro _ w2 ⟨v, o, rfl, hord, how, hb⟩
        have HF := Lib.hid (show ROrdE w (wantsL c at_ 0) (.returned v) w2 from ⟨v, o, rfl, by rw [HWE.out]; exact hord, how.weak HB.out.size, hp.below_step HB.out hb⟩)
        clear hord how hb HOR
        go_wp2_with fail
        go_ret
        exact HF.out
      · have hf2 : (file != 0) = true := by simpa using hf
        have HWE := Lib.hid (show wantsL c at_ file = dirs c at_ i ++ [⟨i, file, c.wf⟩] from by rw [HWL.out, if_pos hf])
        obtain ⟨b, hb⟩ : ∃ b, c.wf = b := ⟨_, rfl⟩
        rw [hb] at HWE
        have HBW := Lib.hid hb
        go_upto_region 11 with fail
        obtain ⟨w3, hw3⟩ : ∃ w3, wr.alloc (.cells #[.int .i64 i, .int .i64 file, .bool false] 63) = w3 := ⟨_, rfl⟩
        rw [hw3]
        have hal : Below wr.heap.size wr w3 := by rw [← hw3]; exact hp.below_alloc _ _
        have HS3 := Lib.hid (show w3.heap.size = wr.heap.size + 1 from by rw [← hw3]; simp)
        have HOLT := Lib.hid (fun g (e : u7.ownBlock = some g) => (HO.out.olt e).2)
        have HO3 := Lib.hid (HO.out.keep (w' := w3) fun g e => hal.block g (HO.out.olt e).2)
        have HX3 := Lib.hid (HX.out.below hal)
        have HB3 := Lib.hid (hp.below_step HB.out hal)
        have HZ3 := Lib.hid (show ∀ j, w3.cell? ⟨wr.heap.size, j, none⟩ = #[Value.int .i64 i, .int .i64 file, .bool false][j]? from fun j => by rw [← hw3]; exact World.cell?_alloc_new _ _ _ _)
        have HZF := Lib.hid (show ∀ j, w3.frozen? ⟨wr.heap.size, j, none⟩ = false from fun j => by rw [← hw3]; simp)
        obtain ⟨k0, k1, k2, k3, k4, k5, k6⟩ := HX3.out.all
        clear hal hw3 HO HX HB hb hf
        go_upto_block 2 with fail
        go_cut [52] from 52 to 66 (fun v wx => Hid (Below w.heap.size w wx) ∧ Hid (wx.cell? ⟨wr.heap.size, 0, none⟩ = some (.int .i64 i) ∧ wx.cell? ⟨wr.heap.size, 1, none⟩ = some (.int .i64 file) ∧ wx.cell? ⟨wr.heap.size, 2, none⟩ = some (.bool b)) ∧ Hid (∀ k, k < wr.heap.size → wx.heap[k]? = w3.heap[k]?) ∧ Hid (w3.heap.size ≤ wx.heap.size))
        case first =>
          have z2 := HZ3.out 2
          have zf := HZF.out 2
          simp only [List.getElem?_toArray, List.getElem?_cons_zero, List.getElem?_cons_succ] at z2
          have SET := Lib.hid (fun b' (e : b' = true) => (show (w3.setCell ⟨wr.heap.size, 2, none⟩ (.bool true)).cell? ⟨wr.heap.size, 0, none⟩ = some (.int .i64 i) ∧ (w3.setCell ⟨wr.heap.size, 2, none⟩ (.bool true)).cell? ⟨wr.heap.size, 1, none⟩ = some (.int .i64 file) ∧ (w3.setCell ⟨wr.heap.size, 2, none⟩ (.bool true)).cell? ⟨wr.heap.size, 2, none⟩ = some (.bool b') from
            ⟨by rw [World.cell?_setCell_other _ _ _ _ (fun e => by have := congrArg Addr.off e; simp at this)]; exact HZ3.out 0, by rw [World.cell?_setCell_other _ _ _ _ (fun e => by have := congrArg Addr.off e; simp at this)]; exact HZ3.out 1, by rw [World.cell?_setCell_same _ _ _ (HZ3.out 2), e]⟩))
          by_cases e4 : c.op = 4
          · have q := e4
            have HV := Lib.hid (show b = true from by rw [← HBW.out]; simp [Cx.wf, e4])
            clear HBW e4
            go_wp2_with fail
            go_meet
            case rel => exact ⟨Lib.hid (HB3.out.setCell (by have := HSW.out; show w.heap.size ≤ wr.heap.size; omega) _), Lib.hid (SET.out b HV.out), Lib.hid (fun k hk => Below.heap_setCell _ _ _ _ (by show ¬ (k = wr.heap.size); omega)), Lib.hid (by simp [World.setCell])⟩
          have q4 : (c.op == 4) = false := by simpa using e4
          by_cases e6 : c.op = 6
          · have q := e6
            have HV := Lib.hid (show b = true from by rw [← HBW.out]; simp [Cx.wf, e6])
            clear HBW e6
            go_wp2_with fail
            go_meet
            case rel => exact ⟨Lib.hid (HB3.out.setCell (by have := HSW.out; show w.heap.size ≤ wr.heap.size; omega) _), Lib.hid (SET.out b HV.out), Lib.hid (fun k hk => Below.heap_setCell _ _ _ _ (by show ¬ (k = wr.heap.size); omega)), Lib.hid (by simp [World.setCell])⟩
          have q6 : (c.op == 6) = false := by simpa using e6
          by_cases e8 : c.op = 8
          · have q := e8
            have HV := Lib.hid (show b = true from by rw [← HBW.out]; simp [Cx.wf, e8])
            clear HBW e8
            go_wp2_with fail
            go_meet
            case rel => exact ⟨Lib.hid (HB3.out.setCell (by have := HSW.out; show w.heap.size ≤ wr.heap.size; omega) _), Lib.hid (SET.out b HV.out), Lib.hid (fun k hk => Below.heap_setCell _ _ _ _ (by show ¬ (k = wr.heap.size); omega)), Lib.hid (by simp [World.setCell])⟩
          have q8 : (c.op == 8) = false := by simpa using e8
          by_cases e13 : c.op = 13
          · have q := e13
            have HV := Lib.hid (show b = true from by rw [← HBW.out]; simp [Cx.wf, e13])
            clear HBW e13
            go_wp2_with fail
            go_meet
            case rel => exact ⟨Lib.hid (HB3.out.setCell (by have := HSW.out; show w.heap.size ≤ wr.heap.size; omega) _), Lib.hid (SET.out b HV.out), Lib.hid (fun k hk => Below.heap_setCell _ _ _ _ (by show ¬ (k = wr.heap.size); omega)), Lib.hid (by simp [World.setCell])⟩
          have q13 : (c.op == 13) = false := by simpa using e13
          by_cases e14 : c.op = 14
          · have q := e14
            have HV := Lib.hid (show b = true from by rw [← HBW.out]; simp [Cx.wf, e14])
            clear HBW e14
            go_wp2_with fail
            go_meet
            case rel => exact ⟨Lib.hid (HB3.out.setCell (by have := HSW.out; show w.heap.size ≤ wr.heap.size; omega) _), Lib.hid (SET.out b HV.out), Lib.hid (fun k hk => Below.heap_setCell _ _ _ _ (by show ¬ (k = wr.heap.size); omega)), Lib.hid (by simp [World.setCell])⟩
          have q14 : (c.op == 14) = false := by simpa using e14
          by_cases e17 : c.op = 17
          · have q := e17
            have HV := Lib.hid (show b = true from by rw [← HBW.out]; simp [Cx.wf, e17])
            clear HBW e17
            go_wp2_with fail
            go_meet
            case rel => exact ⟨Lib.hid (HB3.out.setCell (by have := HSW.out; show w.heap.size ≤ wr.heap.size; omega) _), Lib.hid (SET.out b HV.out), Lib.hid (fun k hk => Below.heap_setCell _ _ _ _ (by show ¬ (k = wr.heap.size); omega)), Lib.hid (by simp [World.setCell])⟩
          have q17 : (c.op == 17) = false := by simpa using e17
          by_cases e1 : c.op = 1
          · have HV := Lib.hid (show b = bitU c.fl 1 from by rw [← HBW.out]; simp [Cx.wf, e1])
            have HC := Lib.hid (fun W => bit_any c.fl 1 (by decide) W)
            unfold RetB at HC
            rw [← HV.out] at HC
            have q := e1
            clear HBW e1 e4 e6 e8 e13 e14 e17 q4 q6 q8 q13 q14 q17
            go_wp2_with fail
            refine (HC.out _).mono ?_
            rintro _ w4 ⟨rfl, hb4⟩
            have z2 := (hb4.cell (p := ⟨wr.heap.size, 2, none⟩) (by rw [HS3.out]; exact Nat.lt_succ_self _)).trans (HZ3.out 2)
            have zf := (hb4.frozen (p := ⟨wr.heap.size, 2, none⟩) (by rw [HS3.out]; exact Nat.lt_succ_self _)).trans (HZF.out 2)
            simp only [List.getElem?_toArray, List.getElem?_cons_zero, List.getElem?_cons_succ] at z2
            have HB4 := Lib.hid hb4
            clear hb4 HC q
            go_wp2_with fail
            go_meet
            case rel =>
              refine ⟨Lib.hid ((hp.below_step HB3.out HB4.out).setCell (by have := HSW.out; show w.heap.size ≤ wr.heap.size; omega) _), Lib.hid ?_, Lib.hid (fun k hk => (Below.heap_setCell _ _ _ _ (by show ¬ (k = wr.heap.size); omega)).trans (HB4.out.block k (by rw [HS3.out]; omega))), Lib.hid (by have := HB4.out.size; simpa [World.setCell] using this)⟩
              have y0 := (HB4.out.cell (p := ⟨wr.heap.size, 0, none⟩) (by rw [HS3.out]; exact Nat.lt_succ_self _)).trans (HZ3.out 0)
              have y1 := (HB4.out.cell (p := ⟨wr.heap.size, 1, none⟩) (by rw [HS3.out]; exact Nat.lt_succ_self _)).trans (HZ3.out 1)
              have y2 := (HB4.out.cell (p := ⟨wr.heap.size, 2, none⟩) (by rw [HS3.out]; exact Nat.lt_succ_self _)).trans (HZ3.out 2)
              exact ⟨by rw [World.cell?_setCell_other _ _ _ _ (fun e => by have := congrArg Addr.off e; simp at this)]; exact y0, by rw [World.cell?_setCell_other _ _ _ _ (fun e => by have := congrArg Addr.off e; simp at this)]; exact y1, by rw [World.cell?_setCell_same _ _ _ y2]⟩
          · have HV := Lib.hid (show b = false from by rw [← HBW.out]; simp [Cx.wf, e1, e4, e6, e8, e13, e14, e17])
            have q1 : (c.op == 1) = false := by simpa using e1
            clear HBW e1 e4 e6 e8 e13 e14 e17
            go_wp2_with fail
            go_meet
            case rel => exact ⟨HB3, Lib.hid ⟨HZ3.out 0, HZ3.out 1, by rw [HV.out]; exact HZ3.out 2⟩, Lib.hid (fun k hk => rfl), Lib.hid (Nat.le_refl _)⟩
        case rest =>
          obtain ⟨HBB, HZC, HKP, HSZ⟩ := hcut
          have HOC := Lib.hid (HO3.out.keep (w' := wc) fun g e => HKP.out g (HOLT.out g e))
          have HSC := Lib.hid (show w.heap.size + 1 ≤ wc.heap.size from by have := HSW.out; have := HS3.out; have := HSZ.out; omega)
          have HOW := Lib.hid (show wc.ownsRow (w.heap.size + 1) 63 3 u7 i (encW (dirs c at_ i)) from by have := HOC.out; unfold OW at this; rw [dirs_len] at this; exact this)
          obtain ⟨z0, z1, z2⟩ := HZC.out
          clear HO3 HX3 HB3 HZ3 HZF HOC k0 k1 k2 k3 k4 k5 k6
          go_wp2_with (at_builtin; go_loud (refine wpList_append_own_at _ rfl (.tmp 66) (.tmp 68) 26 rfl (w.heap.size + 1) 63 i0 _ 3 24 Try.underlying26 HI.out HZ.out.1 HZ.out.2.1 HZ.out.2.2 rfl (by decide) u7 i (encW (dirs c at_ i)) rfl (HOW.out.alloc _) ⟨wc.heap.size, 0, none⟩ 1 1 [.int .i64 i, .int .i64 file, .bool b] rfl rfl (World.news_of_block (cs := #[.int .i64 i, .int .i64 file, .bool b]) (t := 63) (fr := (0, 0)) (heap_alloc_new wc _)) (by intro u hu; simp at hu; rcases hu with rfl | rfl | rfl <;> rfl) (by unfold maxLen; omega) (by omega) (by have := HSC.out; simp; omega) ?_; intro v1 w5 hown1 hgrow1 _ hat1))
          have hz : (wc.alloc (.cells #[.int .i64 i, .int .i64 file, .bool b] 63)).heap.size = wc.heap.size + 1 := by simp
          have HB5 := Lib.hid ((HBB.out.alloc HBB.out.size _).grown hgrow1 (by rw [hz]; have := HSC.out; omega) (fun g e => by have := (HOW.out.lt g e).1; omega))
          have HOR := Lib.hid (show Calls Try.prog 12 #[v1] w5 (ROrdE w5 (wantsL c at_ file)) from rorder_own (lo := w.heap.size + 1) (E := 63) (by
            unfold OW
            rw [HWE.out, List.length_append, dirs_len, encW_app]
            exact hown1) (by have := HLL.out; omega))
          clear hown1 hgrow1 hat1 hz
          go_wp2_with fail
          refine HOR.out.mono ?_
          rintro _ w2 ⟨v, o, rfl, hord, how, hb⟩
          have HF := Lib.hid (show ROrdE w (wantsL c at_ file) (.returned v) w2 from ⟨v, o, rfl, hord, how.weak HB5.out.size, hp.below_step HB5.out hb⟩)
          clear hord how hb HOR
          go_wp2_with fail
          go_ret
          exact HF.out
end Go.Proofs.Ytlplbpilpkmoaaa.pl
