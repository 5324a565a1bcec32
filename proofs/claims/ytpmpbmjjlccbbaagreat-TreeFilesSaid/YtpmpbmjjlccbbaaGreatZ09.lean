/- Part 9 of what is known of the program's functions and of the document's words: contracts, and the mathematics beneath them. -/
import Derived.Test.YtpmpbmjjlccbbaaGreatProg
import Derived.Test.YtpmpbmjjlccbbaaGreatZ08
import Derived.Test.YtpmpbmjjlccbbaaGreatZ07
import Derived.Laws.IdiomStrings
import Derived.Lib.BufferRead
set_option linter.unusedVariables false
set_option linter.unusedSimpArgs false
set_option maxRecDepth 100000
set_option maxHeartbeats 8000000
namespace Go.Proofs.YtpmpbmjjlccbbaaGreat.bl
open Go.RowKit
theorem write_any (S B M room used len dc : Nat) (b : AB) (A : Option Addr) (off : Int) (f : Nat → UInt8) (w : World) (hb : Bod w S B M b) (hs0 : StoC w S room used) (hu : b.n ≤ used) (hur : used ≤ room) (hr : room ≤ 65536) (hSB : S ≠ B) (hSM : S ≠ M) (hBM : B ≠ M)
  (hA : BytesIn w (fp S B M) A len f) (hlc : len ≤ dc) (hdc : dc ≤ maxLen) :
  Calls Tryz.prog 197 #[Pq S, Pq B, .int .i64 off, .slice A len dc] w (WriteE w S B M room used b off len f) := by
 have ho := owns_any S B M b.size w hb.c
 have hSl := World.block_lt_of_cell? w _ hs0.c0
 have hB := hb.ltB
 have hM := hb.ltM
 have hlen : len ≤ 9223372036854775807 := by unfold maxLen at hdc; omega
 clear hdc
 have HSAME := Lib.hid (show ∀ e v, WR b used room off len 0 v → e = .returned (.tuple #[.int .i64 0, .int .i64 v]) → WriteE w S B M room used b off len f e w from fun e v h1 he => by
  have hw : wr b off 0 f = b := wrB_zero _ _ _
  refine ⟨0, v, he, h1, by rw [hw]; omega, ?_⟩
  rw [hw]
  exact ⟨by rw [Nat.add_sub_cancel]; exact hs0, hb, Only.refl _ _⟩)
 by_cases h0 : off < 0
 ·have HP := Lib.hid (HSAME.out _ 22 (Or.inl ⟨h0, rfl, rfl⟩) rfl)
  clear hB hM hSB hSM hBM hu hur hr
  go_enter Tryz.func197, Tryz.ntmps197
  go_wp2
  go_ret2
  exact HP.out
 have h0' : 0 ≤ off := by omega
 by_cases hl0 : len = 0
 ·have HP := Lib.hid (HSAME.out _ 0 (Or.inr (Or.inl ⟨by omega, hl0, rfl, rfl⟩)) rfl)
  have hl1 : ((len : Int) == 0) = true := by simpa using hl0
  subst hl0
  clear hB hM hSB hSM hBM hu hur hr
  go_enter Tryz.func197, Tryz.ntmps197
  go_wp2_with (go_at_call 156; ((with_reducible refine ho.mono ?_); rintro e w' ⟨rfl, rfl⟩))
  go_ret2
  exact HP.out
 have hl1 : ((len : Int) == 0) = false := by simpa using hl0
 by_cases hs2 : 65536 ≤ off
 ·have HP := Lib.hid (HSAME.out _ 27 (Or.inr (Or.inr (Or.inl ⟨hs2, by omega, rfl, rfl⟩))) rfl)
  have HL0 := Lib.hid hl0
  clear hB hM hSB hSM hBM hu hur hr hl0
  go_enter Tryz.func197, Tryz.ntmps197
  go_wp2_with (go_at_call 156; ((with_reducible refine ho.mono ?_); rintro e w' ⟨rfl, rfl⟩))
  go_ret2
  exact HP.out
 obtain ⟨s, hs⟩ : ∃ s : Nat, off = (s : Int) := ⟨off.toNat, by omega⟩
 obtain ⟨T, hT⟩ : ∃ T, T = min len (65536 - s) := ⟨_, rfl⟩
 have hT1 : T ≤ len := by omega
 have hT2 : s + T ≤ 65536 := by omega
 have hT0 : 0 < T := by omega
 have HT := Lib.hid (show 0 < len ∧ T = min len (65536 - s) from ⟨by omega, hT⟩)
 obtain ⟨sb, so, rfl, -⟩ := hA 0 (by omega)
 have key : (T = len ∧ (len : Int) ≤ (65536 : Int) - off) ∨ ((65536 : Int) - off = (T : Int) ∧ ¬ ((len : Int) ≤ (T : Int))) := by omega
 have HL0 := Lib.hid hl0
 have HOFF := Lib.hid hs
 have HB := Lib.hid hb
 have HS := Lib.hid hs0
 have HA := Lib.hid hA
 have HNE := Lib.hid (show S ≠ B ∧ S ≠ M ∧ B ≠ M from ⟨hSB, hSM, hBM⟩)
 have HUR := Lib.hid (show b.n ≤ used ∧ used ≤ room ∧ room ≤ 65536 from ⟨hu, hur, hr⟩)
 have HTC := Lib.hid (show T ≤ dc from by omega)
 have HST := Lib.hid (show Mid w w S B M room used s 0 b.n b f from ⟨hb.c, hb.m.ext (fun x => thW_self b s x) (fun i => over_self _ _ _ _), by rw [Nat.add_sub_cancel]; exact hs0, Only.refl _ _, Nat.le_refl _, by omega⟩)
 have HT2 := Lib.hid (show s + T ≤ 65536 ∧ T ≤ len from ⟨hT2, hT1⟩)
 have hT2i : off + (T : Int) ≤ 65536 := by omega
 have hleni : (len : Int) ≤ 9223372036854775807 := by omega
 have hs3 : off < 65536 := by omega
 clear hT hT2 hT1 hlen hl0 hb hs hs0 hA hSB hSM hBM hu hur hr HSAME
 have hq2 : off + (T : Int) - off = (T : Int) := by omega
 have hs4 : decide (65536 ≤ off) = false := by simp; omega
 rcases key with ⟨hTl, hle⟩ | ⟨hd, hlt⟩
 ·subst hTl
  go_enter Tryz.func197, Tryz.ntmps197
  go_wp2_with fail
  refine ho.mono ?_
  rintro e w' ⟨rfl, rfl⟩
  go_wp2_with fail
  go_loopg [12] T (fun g s12 wr => ∃ p N : Nat, g + p = T ∧ s12 = .int .i64 (off + (p : Int)) ∧ Hid (Mid w wr S B M room used s p N b f) ∧ Hid (∀ q, q < p → okW b used room s q))
  case atStart => exact ⟨0, b.n, by omega, by simp, HST, Lib.hid (fun q hq => absurd hq (Nat.not_lt_zero _))⟩
  case round =>
   clear HST ho
   obtain ⟨p, N, hg, rfl, HM, HK⟩ := hrel
   have HWR := Lib.hid (HM.out.o.size)
   have hq1 : off + (p : Int) - off = (p : Int) := by omega
   by_cases hpT : p < T
   ·obtain ⟨k, hk⟩ : ∃ k, k = (s + p) / 16 := ⟨_, rfl⟩
    have hki : (off + (p : Int)) / 16 = (k : Int) := by have := HOFF.out; omega
    have HKE := Lib.hid hk
    have hpTi : (p : Int) < (T : Int) := by omega
    have hndc : ¬ dc = p := by have := HTC.out; omega
    clear hk
    cases ht : thW b s (s + p) k
    ·by_cases hroom : used + N - b.n < room
     ·have HP := Lib.hid (prov_make S B M b.size N k room (used + N - b.n) _ _ wr HM.out.c HM.out.m HM.out.t ht hroom HUR.out.2.2 HNE.out.2.1)
      have HTK := Lib.hid ht
      have HRM := Lib.hid hroom
      clear ht hroom
      go_wp2_with fail
      refine HP.out.mono ?_
      rintro e w2 ⟨rfl, hm2, ht2, ho2⟩
      have hBlr := Nat.lt_of_lt_of_le hB HWR.out
      have hc2 := HM.out.c.below (ho2.block B hBlr (by have := HNE.out; intro h; rcases h with h | h; exact this.2.2 h; exact this.1 h.symm))
      have ho2' := ho2.mono (G := fp S B M) (by intro x hx; rcases hx with h | h; exact Or.inr (Or.inr h); exact Or.inl h)
      have HPUT := Lib.hid (put_at S B M b.size (N + 1) k T s p sb so dc T (fp S B M) _ _ f w2 hc2 hm2 HKE.out.symm (by unfold updB; rw [if_pos rfl]) (by have := HT2.out; omega) ((HA.out.only HM.out.o).only ho2') hpT HT2.out.2 off HOFF.out)
      have HT2' := Lib.hid ht2
      have HO2 := Lib.hid ho2'
      have HC2 := Lib.hid hc2
      clear hm2 ht2 ho2 ho2' hc2 HP
      go_wp2_with fail
      refine HPUT.out.mono ?_
      rintro e w3 ⟨m, rfl, hm0, hm1, hm2, hm3, ho3⟩
      have hB2 := Nat.lt_of_lt_of_le hBlr HO2.out.size
      have HMID := Lib.hid (show Mid w w3 S B M room used s (p + m) (N + 1) b f from ⟨HC2.out.below (ho3.block B hB2 HNE.out.2.2),
       hm3.ext (fun x => (thW_step HKE.out.symm hm0 hm2 x).trans (by unfold updB; by_cases e : x = k <;> simp [e])) (fun i => over_step i),
       by have := HT2'.out; rw [show used + (N + 1) - b.n = used + N - b.n + 1 from by have := HM.out.n; have := HUR.out.1; omega]; exact this.below (ho3.block S (Nat.lt_of_lt_of_le (Nat.lt_of_lt_of_le hSl HWR.out) HO2.out.size) HNE.out.2.1),
       (HM.out.o.trans HO2.out).trans (ho3.mono fun x h => Or.inr (Or.inr h)), by have := HM.out.n; omega, by have := HRM.out; omega⟩)
      have HOK := Lib.hid (show ∀ q, q < p + m → okW b used room s q from okW_step HB.out.ok HM.out.m (by have := HT2.out; omega) HK.out HKE.out.symm hm2 (Or.inl HRM.out))
      clear hm3 ho3 HPUT hm2
      go_wp2_with fail
      go_roundg (gk - m)
      case measure => omega
      case rel => exact ⟨p + m, N + 1, by omega, by go_num, HMID, HOK⟩
     ·have HP := Lib.hid (prov_full S B M b.size N k room (used + N - b.n) _ _ wr HM.out.c HM.out.m HM.out.t ht (by omega))
      have HTK := Lib.hid ht
      have HRM := Lib.hid hroom
      clear ht hroom
      go_wp2_with fail
      refine HP.out.mono ?_
      rintro e w2 ⟨rfl, hbl⟩
      have HMID := Lib.hid (HM.out.below hbl)
      have HEND := Lib.hid (show IsStop b used room s T p from ⟨by omega, HK.out, Or.inr (okW_not HB.out.ok HM.out.m (by have := HT2.out; omega) HKE.out.symm HTK.out HRM.out)⟩)
      have hBlr := Nat.lt_of_lt_of_le (Nat.lt_of_lt_of_le hB HWR.out) hbl.size
      have c1 := HMID.out.c.c1
      have f1 := HMID.out.c.f1
      clear hbl HP HM HK
      by_cases hp0 : p = 0
      ·subst hp0
       have HF := Lib.hid (fin0 (f := f) HB.out HS.out HUR.out HT.out HOFF.out HEND.out HMID.out)
       go_wp2_with fail
       go_ret2
       exact HF.out
      ·have hne : (off + (p : Int) == off) = false := by simp; omega
       have HF := Lib.hid (fin1 (f := f) HB.out HNE.out HUR.out HT.out HOFF.out HT2.out.1 HEND.out HMID.out hp0)
       have hmx : ¬ (off + (p : Int) ≤ (b.size : Int)) ∨ (off + (p : Int) ≤ (b.size : Int)) := by omega
       clear hp0
       rcases hmx with hmx | hmx
       ·have hmax := HF.out.1 (by have := HOFF.out; omega)
        have HFF := Lib.hid hmax
        clear hmax HF
        go_wp2_with fail
        go_ret2
        exact HFF.out
       ·have hmax := HF.out.2 (by have := HOFF.out; omega)
        have HFF := Lib.hid hmax
        clear hmax HF
        go_wp2_with fail
        go_ret2
        exact HFF.out
    ·have HP := Lib.hid (prov_there S B M b.size N k _ _ wr HM.out.c HM.out.m ht)
     have HTK := Lib.hid ht
     clear ht
     go_wp2_with fail
     refine HP.out.mono ?_
     rintro e w2 ⟨rfl, hbl⟩
     have hmid := HM.out.below hbl
     have HPUT := Lib.hid (put_at S B M b.size N k T s p sb so dc T (fp S B M) _ _ f w2 hmid.c hmid.m HKE.out.symm HTK.out (by have := HT2.out; omega) (HA.out.only hmid.o) hpT HT2.out.2 off HOFF.out)
     have HMI := Lib.hid hmid
     have hB2 := Nat.lt_of_lt_of_le (Nat.lt_of_lt_of_le hB HWR.out) hbl.size
     have hS2 := Nat.lt_of_lt_of_le (Nat.lt_of_lt_of_le hSl HWR.out) hbl.size
     clear hmid hbl HP
     go_wp2_with fail
     refine HPUT.out.mono ?_
     rintro e w3 ⟨m, rfl, hm0, hm1, hm2, hm3, ho3⟩
     have HMID := Lib.hid (show Mid w w3 S B M room used s (p + m) N b f from ⟨HMI.out.c.below (ho3.block B hB2 HNE.out.2.2),
      hm3.ext (fun x => (thW_step HKE.out.symm hm0 hm2 x).trans (by have := HTK.out; unfold updB; by_cases e : x = k <;> simp [e, this])) (fun i => over_step i),
      HMI.out.t.below (ho3.block S hS2 HNE.out.2.1), HMI.out.o.trans (ho3.mono fun x h => Or.inr (Or.inr h)), HMI.out.n, HMI.out.r⟩)
     have HOK := Lib.hid (show ∀ q, q < p + m → okW b used room s q from okW_step HB.out.ok HM.out.m (by have := HT2.out; omega) HK.out HKE.out.symm hm2 (Or.inr HTK.out))
     clear hm3 ho3 HPUT hm2
     go_wp2_with fail
     go_roundg (gk - m)
     case measure => omega
     case rel => exact ⟨p + m, N, by omega, by go_num, HMID, HOK⟩
   ·have hpE : p = T := by omega
    have HMID := HM
    have HEND := Lib.hid (show IsStop b used room s T p from ⟨by omega, HK.out, Or.inl hpE⟩)
    have c1 := HMID.out.c.c1
    have f1 := HMID.out.c.f1
    have hp0 : ¬ p = 0 := by omega
    have hpTi : ¬ ((p : Int) < (T : Int)) := by omega
    have hBlr := Nat.lt_of_lt_of_le hB HWR.out
    have hne : (off + (p : Int) == off) = false := by simp; omega
    have HF := Lib.hid (fin1 (f := f) HB.out HNE.out HUR.out HT.out HOFF.out HT2.out.1 HEND.out HMID.out hp0)
    have hmx : ¬ (off + (p : Int) ≤ (b.size : Int)) ∨ (off + (p : Int) ≤ (b.size : Int)) := by omega
    have HPE := Lib.hid hpE
    clear hp0 hpE
    rcases hmx with hmx | hmx
    ·have hmax := HF.out.1 (by have := HOFF.out; omega)
     have HFF := Lib.hid hmax
     clear hmax HF
     go_wp2_with fail
     go_ret2
     exact HFF.out
    ·have hmax := HF.out.2 (by have := HOFF.out; omega)
     have HFF := Lib.hid hmax
     clear hmax HF
     go_wp2_with fail
     go_ret2
     exact HFF.out
 ·go_enter Tryz.func197, Tryz.ntmps197
  go_wp2_with fail
  refine ho.mono ?_
  rintro e w' ⟨rfl, rfl⟩
  go_wp2_with fail
  go_loopg [12] T (fun g s12 wr => ∃ p N : Nat, g + p = T ∧ s12 = .int .i64 (off + (p : Int)) ∧ Hid (Mid w wr S B M room used s p N b f) ∧ Hid (∀ q, q < p → okW b used room s q))
  case atStart => exact ⟨0, b.n, by omega, by simp, HST, Lib.hid (fun q hq => absurd hq (Nat.not_lt_zero _))⟩
  case round =>
   clear HST ho
   obtain ⟨p, N, hg, rfl, HM, HK⟩ := hrel
   have HWR := Lib.hid (HM.out.o.size)
   have hq1 : off + (p : Int) - off = (p : Int) := by omega
   by_cases hpT : p < T
   ·obtain ⟨k, hk⟩ : ∃ k, k = (s + p) / 16 := ⟨_, rfl⟩
    have hki : (off + (p : Int)) / 16 = (k : Int) := by have := HOFF.out; omega
    have HKE := Lib.hid hk
    have hpTi : (p : Int) < (T : Int) := by omega
    have hndc : ¬ dc = p := by have := HTC.out; omega
    clear hk
    cases ht : thW b s (s + p) k
    ·by_cases hroom : used + N - b.n < room
     ·have HP := Lib.hid (prov_make S B M b.size N k room (used + N - b.n) _ _ wr HM.out.c HM.out.m HM.out.t ht hroom HUR.out.2.2 HNE.out.2.1)
      have HTK := Lib.hid ht
      have HRM := Lib.hid hroom
      clear ht hroom
      go_wp2_with fail
      refine HP.out.mono ?_
      rintro e w2 ⟨rfl, hm2, ht2, ho2⟩
      have hBlr := Nat.lt_of_lt_of_le hB HWR.out
      have hc2 := HM.out.c.below (ho2.block B hBlr (by have := HNE.out; intro h; rcases h with h | h; exact this.2.2 h; exact this.1 h.symm))
      have ho2' := ho2.mono (G := fp S B M) (by intro x hx; rcases hx with h | h; exact Or.inr (Or.inr h); exact Or.inl h)
      have HPUT := Lib.hid (put_at S B M b.size (N + 1) k T s p sb so dc len (fp S B M) _ _ f w2 hc2 hm2 HKE.out.symm (by unfold updB; rw [if_pos rfl]) (by have := HT2.out; omega) ((HA.out.only HM.out.o).only ho2') hpT HT2.out.2 off HOFF.out)
      have HT2' := Lib.hid ht2
      have HO2 := Lib.hid ho2'
      have HC2 := Lib.hid hc2
      clear hm2 ht2 ho2 ho2' hc2 HP
      go_wp2_with fail
      refine HPUT.out.mono ?_
      rintro e w3 ⟨m, rfl, hm0, hm1, hm2, hm3, ho3⟩
      have hB2 := Nat.lt_of_lt_of_le hBlr HO2.out.size
      have HMID := Lib.hid (show Mid w w3 S B M room used s (p + m) (N + 1) b f from ⟨HC2.out.below (ho3.block B hB2 HNE.out.2.2),
       hm3.ext (fun x => (thW_step HKE.out.symm hm0 hm2 x).trans (by unfold updB; by_cases e : x = k <;> simp [e])) (fun i => over_step i),
       by have := HT2'.out; rw [show used + (N + 1) - b.n = used + N - b.n + 1 from by have := HM.out.n; have := HUR.out.1; omega]; exact this.below (ho3.block S (Nat.lt_of_lt_of_le (Nat.lt_of_lt_of_le hSl HWR.out) HO2.out.size) HNE.out.2.1),
       (HM.out.o.trans HO2.out).trans (ho3.mono fun x h => Or.inr (Or.inr h)), by have := HM.out.n; omega, by have := HRM.out; omega⟩)
      have HOK := Lib.hid (show ∀ q, q < p + m → okW b used room s q from okW_step HB.out.ok HM.out.m (by have := HT2.out; omega) HK.out HKE.out.symm hm2 (Or.inl HRM.out))
      clear hm3 ho3 HPUT hm2
      go_wp2_with fail
      go_roundg (gk - m)
      case measure => omega
      case rel => exact ⟨p + m, N + 1, by omega, by go_num, HMID, HOK⟩
     ·have HP := Lib.hid (prov_full S B M b.size N k room (used + N - b.n) _ _ wr HM.out.c HM.out.m HM.out.t ht (by omega))
      have HTK := Lib.hid ht
      have HRM := Lib.hid hroom
      clear ht hroom
      go_wp2_with fail
      refine HP.out.mono ?_
      rintro e w2 ⟨rfl, hbl⟩
      have HMID := Lib.hid (HM.out.below hbl)
      have HEND := Lib.hid (show IsStop b used room s T p from ⟨by omega, HK.out, Or.inr (okW_not HB.out.ok HM.out.m (by have := HT2.out; omega) HKE.out.symm HTK.out HRM.out)⟩)
      have hBlr := Nat.lt_of_lt_of_le (Nat.lt_of_lt_of_le hB HWR.out) hbl.size
      have c1 := HMID.out.c.c1
      have f1 := HMID.out.c.f1
      clear hbl HP HM HK
      by_cases hp0 : p = 0
      ·subst hp0
       have HF := Lib.hid (fin0 (f := f) HB.out HS.out HUR.out HT.out HOFF.out HEND.out HMID.out)
       go_wp2_with fail
       go_ret2
       exact HF.out
      ·have hne : (off + (p : Int) == off) = false := by simp; omega
       have HF := Lib.hid (fin1 (f := f) HB.out HNE.out HUR.out HT.out HOFF.out HT2.out.1 HEND.out HMID.out hp0)
       have hmx : ¬ (off + (p : Int) ≤ (b.size : Int)) ∨ (off + (p : Int) ≤ (b.size : Int)) := by omega
       clear hp0
       rcases hmx with hmx | hmx
       ·have hmax := HF.out.1 (by have := HOFF.out; omega)
        have HFF := Lib.hid hmax
        clear hmax HF
        go_wp2_with fail
        go_ret2
        exact HFF.out
       ·have hmax := HF.out.2 (by have := HOFF.out; omega)
        have HFF := Lib.hid hmax
        clear hmax HF
        go_wp2_with fail
        go_ret2
        exact HFF.out
    ·have HP := Lib.hid (prov_there S B M b.size N k _ _ wr HM.out.c HM.out.m ht)
     have HTK := Lib.hid ht
     clear ht
     go_wp2_with fail
     refine HP.out.mono ?_
     rintro e w2 ⟨rfl, hbl⟩
     have hmid := HM.out.below hbl
     have HPUT := Lib.hid (put_at S B M b.size N k T s p sb so dc len (fp S B M) _ _ f w2 hmid.c hmid.m HKE.out.symm HTK.out (by have := HT2.out; omega) (HA.out.only hmid.o) hpT HT2.out.2 off HOFF.out)
     have HMI := Lib.hid hmid
     have hB2 := Nat.lt_of_lt_of_le (Nat.lt_of_lt_of_le hB HWR.out) hbl.size
     have hS2 := Nat.lt_of_lt_of_le (Nat.lt_of_lt_of_le hSl HWR.out) hbl.size
     clear hmid hbl HP
     go_wp2_with fail
     refine HPUT.out.mono ?_
     rintro e w3 ⟨m, rfl, hm0, hm1, hm2, hm3, ho3⟩
     have HMID := Lib.hid (show Mid w w3 S B M room used s (p + m) N b f from ⟨HMI.out.c.below (ho3.block B hB2 HNE.out.2.2),
      hm3.ext (fun x => (thW_step HKE.out.symm hm0 hm2 x).trans (by have := HTK.out; unfold updB; by_cases e : x = k <;> simp [e, this])) (fun i => over_step i),
      HMI.out.t.below (ho3.block S hS2 HNE.out.2.1), HMI.out.o.trans (ho3.mono fun x h => Or.inr (Or.inr h)), HMI.out.n, HMI.out.r⟩)
     have HOK := Lib.hid (show ∀ q, q < p + m → okW b used room s q from okW_step HB.out.ok HM.out.m (by have := HT2.out; omega) HK.out HKE.out.symm hm2 (Or.inr HTK.out))
     clear hm3 ho3 HPUT hm2
     go_wp2_with fail
     go_roundg (gk - m)
     case measure => omega
     case rel => exact ⟨p + m, N, by omega, by go_num, HMID, HOK⟩
   ·have hpE : p = T := by omega
    have HMID := HM
    have HEND := Lib.hid (show IsStop b used room s T p from ⟨by omega, HK.out, Or.inl hpE⟩)
    have c1 := HMID.out.c.c1
    have f1 := HMID.out.c.f1
    have hp0 : ¬ p = 0 := by omega
    have hpTi : ¬ ((p : Int) < (T : Int)) := by omega
    have hBlr := Nat.lt_of_lt_of_le hB HWR.out
    have hne : (off + (p : Int) == off) = false := by simp; omega
    have HF := Lib.hid (fin1 (f := f) HB.out HNE.out HUR.out HT.out HOFF.out HT2.out.1 HEND.out HMID.out hp0)
    have hmx : ¬ (off + (p : Int) ≤ (b.size : Int)) ∨ (off + (p : Int) ≤ (b.size : Int)) := by omega
    have HPE := Lib.hid hpE
    clear hp0 hpE
    rcases hmx with hmx | hmx
    ·have hmax := HF.out.1 (by have := HOFF.out; omega)
     have HFF := Lib.hid hmax
     clear hmax HF
     go_wp2_with fail
     go_ret2
     exact HFF.out
    ·have hmax := HF.out.2 (by have := HOFF.out; omega)
     have HFF := Lib.hid hmax
     clear hmax HF
     go_wp2_with fail
     go_ret2
     exact HFF.out
def Iv (k : Nat) : Value := .int .i64 (k : Int)
theorem own_slice {w : World} {b e sz n : Nat} {v : Value} {L : List Value} (h : w.ownsRow b e sz v n L) : ∃ A c, v = .slice A n c := by
 rcases h.2 with ⟨h1, h2⟩ | ⟨g, cap, cur, h1, _⟩
 ·exact ⟨none, 0, by rw [h1, h2]⟩
 ·exact ⟨_, cap, h1⟩
theorem cell_new1 (w : World) (v : Value) (t : TypeId) : ∀ j u, [v][j]? = some u → (w.alloc (.cells #[v] t)).cell? ((⟨w.heap.size, 0, none⟩ : Addr).add j) = some u := by
 intro j u hj
 rcases j with _ | j
 ·simp at hj
  subst hj
  simp [Addr.add]
 ·simp at hj
theorem cnt_none (N : Nat) : cnt N (fun _ => false) = 0 := by simp [cnt]
theorem cut_n (b : AB) (off : Int) : (cut b off).n ≤ b.n := by
 unfold cut
 split
 ·exact cnt_le fun k hk => by unfold cutB at hk; simp only [Bool.and_eq_true] at hk; exact hk.1
 ·exact Nat.le_refl _
def strF (n : Nat) (f : Nat → UInt8) : ByteArray := ⟨((List.range n).map f).toArray⟩
theorem conv_cells {w : World} {a : Addr} {n c : Nat} {f : Nat → UInt8} (h : ∀ i, i < n → w.cell? (a.add i) = some (U8 (f i))) : (convert 80 9 (.slice (some a) n c)).run Tryz.prog w = .ok (.string (strF n f)) w := by
 have := run_convert_bytes_back (P := Tryz.prog) w 80 9 5 a c ((List.range n).map f) Tryz.underlying80 Tryz.underlying5 Tryz.underlying9 (fun j hj => by
  have hj' : j < n := by simpa using hj
  rw [h j hj']
  simp [U8])
 unfold strF
 simpa using this
theorem Row.conv {w : World} {lo n c : Nat} {A : Option Addr} {f : Nat → UInt8} (h : Row w lo A n c f) : (convert 80 9 (.slice A n c)).run Tryz.prog w = .ok (.string (strF n f)) w := by
 rcases h.2 with ⟨rfl, rfl⟩ | ⟨g, _, rfl, hg⟩
 ·exact Lib.run_convert_nil_bytes w 80 9 5 c Tryz.underlying80 Tryz.underlying5 Tryz.underlying9
 ·refine conv_cells fun i hi => ?_
  rw [add0, Nat.zero_add, cell_of_row _ _ i _ 5 (0, 0) hg]
  have := rowF_get f hi
  simpa using this
end Go.Proofs.YtpmpbmjjlccbbaaGreat.bl
