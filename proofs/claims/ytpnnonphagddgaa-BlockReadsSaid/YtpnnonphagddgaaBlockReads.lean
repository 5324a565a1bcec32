/- For every room, every list of acts, every place and any two numbers the law BlockReads returns true, and what is handed in reads as it did; there are no conditions. -/
import Derived.Test.YtpnnonphagddgaaLaw1
import Derived.Deep.RegionWith
import Derived.ProofKit
import Derived.OpenShut
namespace Go.Proofs.Ytpnnonphagddgaa.blockReads
open Go.ChangeShapes Go.WideShapes Go.ChangeAt Go.RowKit
set_option linter.unusedVariables false

theorem own : ownKnob Try.prog.godebug = none := by kernel_rfl
theorem laid : laidOutB Try.prog = true := by kernel_rfl

theorem rd_three (b : AB) (ok : b.Ok) (off n m : Int) (h0 : 0 ≤ off) (hn : 0 ≤ n) (hm : 0 ≤ m) : ∃ X Y Z : Nat, readR b off n = (0, X) ∧ readR b (off + (X : Int)) m = (0, Y) ∧ readR b off ((X : Int) + m) = (0, Z) ∧ Z = X + Y ∧ (X : Int) ≤ n ∧ ((b.size : Int) ≤ off → X = 0) ∧ X + Y ≤ 65536 := by
  have hs := ok.size
  refine ⟨min n.toNat (b.size - off.toNat), min m.toNat (b.size - (off + ((min n.toNat (b.size - off.toNat) : Nat) : Int)).toNat), min (((min n.toNat (b.size - off.toNat) : Nat) : Int) + m).toNat (b.size - off.toNat), ?_, ?_, ?_, ?_, ?_, ?_, ?_⟩
  · unfold readR; rw [if_neg (by omega)]
  · unfold readR; rw [if_neg (by omega)]
  · unfold readR; rw [if_neg (by omega)]
  · omega
  · omega
  · omega
  · omega
theorem wf16 {x : Int} (h : (Lit.int .u16 x).wf = true) : 0 ≤ x ∧ x ≤ 65535 := by
  simp only [Lit.wf, Bool.and_eq_true, decide_eq_true_eq] at h
  exact ⟨h.1, h.2⟩
theorem strF_append (X Y : Nat) (f g : Nat → UInt8) (h : ∀ j, j < Y → g j = f (X + j)) : strF X f ++ strF Y g = strF (X + Y) f := by
  unfold strF
  apply ByteArray.ext
  rw [ByteArray.data_append]
  apply Array.ext'
  simp only [Array.toList_append]
  rw [List.range_add, List.map_append, List.map_map]
  congr 1
  exact List.map_congr_left fun j hj => by rw [h j (by simpa using hj)]; rfl
theorem strF_size (X : Nat) (f : Nat → UInt8) : (strF X f).size = X := by
  unfold strF ByteArray.size
  simp
theorem hole_bytes {w : World} {S room P Q : Nat} {b : AB} (h : One w S room P Q b) {k : Nat} {c : Nat} (hk : k ∈ holesL c b.th) {j : Nat} (hj : j < 16) : b.dat (((k : Int) * 16).toNat + j) = 0 := by
  unfold holesL at hk
  have ht : b.th k = false := by have := (List.mem_filter.1 hk).2; simpa using this
  have := (h.bod 0 (by omega)).m.holes k ht j hj
  rw [show ((k : Int) * 16).toNat = 16 * k from by omega]
  exact this
theorem readR_chunk (b : AB) (k : Nat) : ∃ X : Nat, X ≤ 16 ∧ readR b ((k : Int) * 16) 16 = (0, X) :=
  ⟨min 16 (b.size - ((k : Int) * 16).toNat), by omega, by unfold readR; rw [if_neg (by omega)]; rfl⟩
theorem own_at {w : World} {b c i : Nat} {A : Option Addr} {L : List Nat} (h : w.ownsRow b 3 1 (.slice A L.length c) L.length (L.map Iv)) (hi : i < L.length) : ∃ g, A = some ⟨g, 0, none⟩ ∧ b ≤ g ∧ g < w.heap.size ∧ w.cell? ⟨g, i, none⟩ = some (.int .i64 ((L[i] : Nat) : Int)) := by
  have hl := h.lt
  rcases h.2 with ⟨h1, h2⟩ | ⟨g, cap, cur, h1, _⟩
  · omega
  · injection h1 with h1
    subst h1
    obtain ⟨h3, h4⟩ := hl g rfl
    have := h.cells (g := g) rfl i (Iv L[i]) (by simp [hi])
    rw [add0, Nat.zero_add] at this
    exact ⟨g, rfl, h3, h4, this⟩

set_option maxHeartbeats 8000000 in
set_option maxRecDepth 100000 in
theorem walk (room : Int) (A : Option Addr) (n c : Nat) (F : Nat → Act5) (off num more : Int) (w : World) (k1 : n ≤ c ∧ c ≤ maxLen) (hF : Acts w w.heap.size A n F) (hn : (Lit.int .u16 num).wf = true) (hm : (Lit.int .u16 more).wf = true) :
    Calls Try.prog 8 #[.int .i64 room, .slice A n c, .int .i64 off, .int .u16 num, .int .u16 more] w (AwakeE w) := by
  have hn' : 0 ≤ num ∧ num ≤ 65535 := wf16 hn
  have hm' : 0 ≤ more ∧ more ≤ 65535 := wf16 hm
  obtain ⟨hn0, hn1⟩ := hn'
  obtain ⟨hm0, hm1⟩ := hm'
  clear hn hm
  have hnm : (n : Int) ≤ 9223372036854775807 := by have := k1.1; have := k1.2; unfold maxLen at this; omega
  clear k1
  have HF0 := Lib.hid hF
  clear hF
  go_enter Try.func8, Try.ntmps8
  go_wp2_with fail
  refine (awake_any _).mono ?_
  rintro e w1 ⟨rfl, hb1⟩
  have HB1 := Lib.hid hb1
  clear hb1
  by_cases hr : 0 ≤ room ∧ room ≤ 65536
  · obtain ⟨R, hR⟩ : ∃ R : Nat, room = (R : Int) := ⟨room.toNat, by omega⟩
    have HRM := Lib.hid (show R ≤ 65536 by omega)
    subst hR
    clear hr
    go_wp2_with fail
    refine (new_yes R w1 HRM.out).mono ?_
    rintro e w2 ⟨rfl, hw2⟩
    have HS2 := Lib.hid (one_new HRM.out hw2)
    have HB2 := Lib.hid (show Below w.heap.size w w2 by rw [hw2]; exact HB1.out.alloc HB1.out.size _)
    have HZ := Lib.hid (show w2.heap.size = w1.heap.size + 1 by rw [hw2]; simp)
    clear hw2
    by_cases ho0 : off < 0
    · go_wp2_with fail
      go_ret
      exact ⟨rfl, HB2.out⟩
    by_cases ho1 : 1099511627776 < off
    · go_wp2_with fail
      go_ret
      exact ⟨rfl, HB2.out⟩
    have ho2 : off ≤ 1099511627776 := by omega
    have ho3 : 0 ≤ off := by omega
    go_wp2_with fail
    refine (one_body HS2.out).mono ?_
    rintro e w3 ⟨rfl, h3, hb3⟩
    have HF := Lib.hid (show ∀ x, F1 w1.heap.size (w2.heap.size + 1) w2.heap.size x → w.heap.size ≤ x from fun x hx => by
      have := HB1.out.size
      have := HB2.out.size
      rcases F1_or.1 hx with e | e | e <;> omega)
    have HB3 := Lib.hid (below_step HB2.out (hb3.mono HB2.out.size))
    have HT3 := Lib.hid h3
    clear h3 hb3 HS2
    generalize w1.heap.size = S at *
    generalize w2.heap.size + 1 = P at *
    generalize w2.heap.size = Q at *
    clear HZ HB1 HB2
    go_wp2_with fail
    go_loopg [13] 60 (fun g s wr => ∃ (k : Nat) (b : AB), g + k = 60 ∧ k ≤ n ∧ s = .int .i64 (k : Int) ∧ Hid (One wr S R P Q b) ∧ Hid (Below w.heap.size w wr))
    case atStart => exact ⟨0, AB.empty, by omega, by omega, rfl, HT3, HB3⟩
    case round =>
      clear HT3 HB3
      obtain ⟨k, b, hgk, hk, rfl, HT, HBL⟩ := hrel
      have hk60 : k ≤ 60 := by omega
      by_cases hgo : k < n ∧ k < 60
      · obtain ⟨hkn, hk2⟩ := hgo
        obtain ⟨ab, ao, rfl, hab, f0, f1, f2, f3, f4, hsrc⟩ := (HF0.out.below HBL.out) k hkn
        generalize F k = x at *
        have HSRC := Lib.hid hsrc
        have HW := Lib.hid HBL.out.size
        have HAB := Lib.hid hab
        have habr : ab < wr.heap.size := Nat.lt_of_lt_of_le hab HBL.out.size
        have HL := Lib.hid (large_any x wr (Nat.le_trans hsrc.1.1 hsrc.1.2))
        clear hsrc hab
        cases hlb : largeB x
        · rw [hlb] at HL
          go_wp2_with fail
          refine HL.out.mono ?_
          rintro e w4 ⟨rfl, hb4⟩
          have g0 := (hb4.cell (p := ⟨ab, ao + k * 5, none⟩) habr).trans f0
          have g1 := (hb4.cell (p := ⟨ab, ao + k * 5 + 1, none⟩) habr).trans f1
          have g2 := (hb4.cell (p := ⟨ab, ao + k * 5 + 2, none⟩) habr).trans f2
          have g3 := (hb4.cell (p := ⟨ab, ao + k * 5 + 3, none⟩) habr).trans f3
          have g4 := (hb4.cell (p := ⟨ab, ao + k * 5 + 4, none⟩) habr).trans f4
          have HB4 := Lib.hid (below_step HBL.out (hb4.mono HW.out))
          have HP := Lib.hid (one_play (HT.out.below hb4) x HB4.out.size HF.out (HSRC.out.below (hb4.mono HW.out)))
          have hab4 : ab < w4.heap.size := Nat.lt_of_lt_of_le habr hb4.size
          clear hb4 f0 f1 f2 f3 f4 habr HL hlb HT HBL
          go_wp2_with fail
          refine HP.out.mono ?_
          rintro e w5 ⟨rfl, b', h5, ho5⟩
          have HT5 := Lib.hid h5
          have HB5 := Lib.hid (ho5.below HB4.out (Nat.le_refl _) HF.out)
          clear h5 ho5 HP g0 g1 g2 g3 g4
          go_wp2_with fail
          go_roundg (gk - 1)
          case measure => omega
          case rel => exact ⟨k + 1, b', by omega, by omega, by go_num, HT5, HB5⟩
        · rw [hlb] at HL
          go_wp2_with fail
          refine HL.out.mono ?_
          rintro e w4 ⟨rfl, hb4⟩
          have HB4 := Lib.hid (below_step HBL.out (hb4.mono HW.out))
          clear hb4
          go_wp2_with fail
          go_ret
          exact ⟨rfl, HB4.out⟩
      · have hsplit : (k < n ∧ k = 60) ∨ ¬ k < n := by omega
        clear hgo
        have HW := Lib.hid HBL.out.size
        rcases hsplit with ⟨hkn, rfl⟩ | hkn
        all_goals
          obtain ⟨X, Y, Z, hX, hY, hZ, hXY, hXn, hX0, hXs⟩ := rd_three b HT.out.ok off num more (by omega) hn0 hm0
          have HRX := Lib.hid (one_read HT.out off num)
          unfold ReadE at HRX
          rw [hX] at HRX
          have HYZ := Lib.hid (show readR b (off + (X : Int)) more = (0, Y) ∧ readR b off ((X : Int) + more) = (0, Z) ∧ Z = X + Y ∧ ((b.size : Int) ≤ off → X = 0) ∧ X + Y ≤ 65536 from ⟨hY, hZ, hXY, hX0, hXs⟩)
          have hXi : (X : Int) ≤ 65536 := by omega
          clear hX hY hZ hXY hX0 hXs
          go_wp2_with fail
          refine HRX.out.mono ?_
          rintro e w5 ⟨A5, c5, rfl, hr5, hb5⟩
          have HT5 := Lib.hid (HT.out.below hb5)
          have HB5 := Lib.hid (below_step HBL.out (hb5.mono HW.out))
          have HR5 := Lib.hid hr5
          have HF5 := Lib.hid HT.out.F_lt
          clear hr5 hb5 HRX HT HBL
          have HRY := Lib.hid (one_read HT5.out (off + (X : Int)) more)
          unfold ReadE at HRY
          rw [HYZ.out.1] at HRY
          go_wp2_with fail
          refine HRY.out.mono ?_
          rintro e w6 ⟨A6, c6, rfl, hr6, hb6⟩
          have HT6 := Lib.hid (HT5.out.below hb6)
          have HB6 := Lib.hid (below_step HB5.out (hb6.mono HB5.out.size))
          have HR6 := Lib.hid hr6
          have HR5' := Lib.hid (HR5.out.only (Only.of_below (F := fun _ => False) hb6) (fun _ h => h.elim))
          clear hr6 hb6 HRY HT5 HB5 HR5
          have HRZ := Lib.hid (one_read HT6.out off ((X : Int) + more))
          unfold ReadE at HRZ
          rw [HYZ.out.2.1] at HRZ
          go_wp2_with fail
          refine HRZ.out.mono ?_
          rintro e w7 ⟨A7, c7, rfl, hr7, hb7⟩
          have HT7 := Lib.hid (HT6.out.below hb7)
          have HB7 := Lib.hid (below_step HB6.out (hb7.mono HB6.out.size))
          have cv7 := hr7.conv
          have cv6 := (HR6.out.only (Only.of_below (F := fun _ => False) hb7) (fun _ h => h.elim)).conv
          have cv5 := (HR5'.out.only (Only.of_below (F := fun _ => False) hb7) (fun _ h => h.elim)).conv
          have hcat := strF_append X Y (fun j => b.dat (off.toNat + j)) (fun j => b.dat ((off + (X : Int)).toNat + j)) (fun j _ => by rw [show (off + (X : Int)).toNat = off.toNat + X from by omega, Nat.add_assoc])
          rw [← HYZ.out.2.2.1] at hcat
          have hz1 := strF_size X (fun j => b.dat (off.toNat + j))
          have hz2 := strF_size Y (fun j => b.dat ((off + (X : Int)).toNat + j))
          have hz3 := strF_size Z (fun j => b.dat (off.toNat + j))
          generalize strF X (fun j => b.dat (off.toNat + j)) = sx at *
          generalize strF Y (fun j => b.dat ((off + (X : Int)).toNat + j)) = sy at *
          generalize strF Z (fun j => b.dat (off.toNat + j)) = sz at *
          have z4 : sz.size + 1 ≤ 65537 := by have := HYZ.out.2.2; omega
          have z5 : sx.size + sy.size + 1 ≤ 65537 := by have := HYZ.out.2.2; omega
          have z6 : (sx ++ sy).size + 1 ≤ 65537 := by rw [hcat]; exact z4
          have hXnn : ¬ (num < (X : Int)) := by omega
          have HSZ := Lib.hid (one_size HT7.out)
          have HHO := Lib.hid (one_holes HT7.out)
          clear hr7 hb7 HRZ HT6 HB6 HR6 HR5' hz1 hz2 hz3
          go_wp2_with fail
          refine HSZ.out.mono ?_
          rintro e w8 ⟨rfl, rfl⟩
          have hsplit2 : ((b.size : Int) ≤ off ∧ X = 0) ∨ ¬ ((b.size : Int) ≤ off) := by
            by_cases h : (b.size : Int) ≤ off
            · exact Or.inl ⟨h, HYZ.out.2.2.2.1 h⟩
            · exact Or.inr h
          clear hcat z4 z5 z6 cv5 cv6 cv7
          obtain ⟨L, hL⟩ : ∃ L, L = holesL ((b.size + 15) / 16) b.th := ⟨_, rfl⟩
          rw [← hL] at HHO
          have HLL := Lib.hid hL
          have HLE := Lib.hid (show L.length ≤ 4096 by rw [hL]; have := holesL_le ((b.size + 15) / 16) b.th; have := HT7.out.ok.size; omega)
          have HLB := Lib.hid (show ∀ i (h : i < L.length), L[i] < 4096 by
            rw [hL]
            intro i h
            have h1 := List.getElem_mem h
            unfold holesL at h1
            have h2 := List.mem_range.1 (List.mem_filter.1 h1).1
            have := HT7.out.ok.size
            unfold holesL
            omega)
          clear hL
          rcases hsplit2 with ⟨hso, rfl⟩ | hso
          all_goals
            go_wp2_with fail
            refine HHO.out.mono ?_
            rintro e w8 ⟨v, rfl, hown, hb8⟩
            obtain ⟨A8, c8, rfl⟩ := own_slice hown
            have HT8 := Lib.hid (HT7.out.below hb8)
            have HB8 := Lib.hid (below_step HB7.out (hb8.mono HB7.out.size))
            have HOW := Lib.hid hown
            have hLi : (L.length : Int) ≤ 4096 := by have := HLE.out; omega
            clear hown hb8 HT7 HHO HSZ
            go_wp2_with fail
            go_loopg [135] L.length (fun g s wy => ∃ i : Nat, g + i = L.length ∧ s = .int .i64 (i : Int) ∧ Hid (Below w8.heap.size w8 wy))
            case atStart => exact ⟨0, by omega, rfl, Lib.hid (Below.refl _ _)⟩
            case round =>
              obtain ⟨i, hgi, rfl, HBY⟩ := hrel
              by_cases hlt : i < L.length
              · have hlti : (i : Int) < (L.length : Int) := by omega
                obtain ⟨g8, rfl, hg8, hg9, hcell⟩ := own_at HOW.out hlt
                have hkm : L[i] ∈ holesL ((b.size + 15) / 16) b.th := by rw [← HLL.out]; exact List.getElem_mem hlt
                have hkb := HLB.out i hlt
                have d8 := (HBY.out.cell (p := ⟨g8, i, none⟩) hg9).trans hcell
                generalize L[i] = k8 at *
                have HTY := Lib.hid (HT8.out.below HBY.out)
                obtain ⟨X8, hX8, hR8⟩ := readR_chunk b k8
                have HRK := Lib.hid (one_read HTY.out ((k8 : Int) * 16) 16)
                unfold ReadE at HRK
                rw [hR8] at HRK
                have hki : (k8 : Int) < 4096 := by omega
                have HKM := Lib.hid hkm
                clear hkm hkb hcell hR8 hg8
                go_wp2_with fail
                refine HRK.out.mono ?_
                rintro e w9 ⟨A9, c9, rfl, hr9, hb9⟩
                have HR9 := Lib.hid hr9
                have HB9 := Lib.hid (below_step HBY.out (hb9.mono HBY.out.size))
                have HW9 := Lib.hid (show Below w.heap.size w w9 from below_step HB8.out (HB9.out.mono HB8.out.size))
                have hX8i : (X8 : Int) ≤ 16 := by omega
                clear hr9 hb9 HRK d8
                go_wp2_with fail
                go_loopg [149] X8 (fun g s wz => ∃ j : Nat, g + j = X8 ∧ s = .int .i64 (j : Int) ∧ w9 = wz)
                case atStart => exact ⟨0, by omega, rfl, rfl⟩
                case round =>
                  obtain ⟨j, hgj, rfl, rfl⟩ := hrel
                  by_cases hj : j < X8
                  · have hji : (j : Int) < (X8 : Int) := by omega
                    rcases HR9.out.2 with ⟨_, h0⟩ | ⟨g9, _, rfl, hg9r⟩
                    · exfalso; omega
                    have d9 := (cell_of_row _ _ j _ 5 (0, 0) hg9r).trans (by simpa using rowF_get (L := X8) (fun j => b.dat (((k8 : Int) * 16).toNat + j)) hj)
                    have hz := hole_bytes HTY.out HKM.out (j := j) (by omega)
                    have e9 : w9.cell? ⟨g9, j, none⟩ = some (.int .u8 0) := by rw [show Value.int .u8 0 = U8 0 from rfl, ← hz]; simpa using d9
                    clear d9 hz hg9r
                    go_wp2
                    go_roundg (gk - 1)
                    case measure => omega
                    case rel => exact ⟨j + 1, by omega, by go_num, rfl⟩
                  · have hji : ¬ ((j : Int) < (X8 : Int)) := by omega
                    go_wp2
                    go_roundg (L.length - (i + 1))
                    case measure => omega
                    case rel => exact ⟨i + 1, by omega, by go_num, HB9⟩
              · have hlti : ¬ ((i : Int) < (L.length : Int)) := by omega
                have HBE := Lib.hid (below_step HB8.out (HBY.out.mono HB8.out.size))
                go_wp2
                go_ret
                exact ⟨rfl, HBE.out⟩
  · have hbad : room < 0 ∨ 65536 < room := by omega
    have HN := Lib.hid (new_no room w1 hbad)
    clear hr hbad
    go_wp2_with fail
    refine HN.out.mono ?_
    rintro e w2 ⟨rfl, rfl⟩
    go_wp2_with fail
    go_ret
    exact ⟨rfl, HB1.out⟩

set_option maxRecDepth 100000 in
theorem lifted (os : Os) (started : os.Started) (H : Type) (enc : TypeId × Value → H) :
    ReturnsInHanded {} Try.checked os 8 .any (Rows.blockReadsSpec.pre6 enc Try.prog Try.f8 Rows.blockReadsRow.domain false) (Rows.blockReadsSpec.post enc Try.prog Try.f8 false true false false) := by
  refine returnsInHanded_of_change (C := Try.checked) own started (by kernel_rfl) Try.func8
    (ChangeSpec.witness6 (enc := enc) (C := Try.checked) false ⟨#[], #[.int .i64 0, .slice none 0 0, .int .i64 0, .int .u16 0, .int .u16 0], []⟩ 8 (by kernel_rfl) (by kernel_rfl) (by kernel_rfl) (by kernel_rfl)) ?_
  intro W base args ds gs before hval0 hW hcnd _
  have hval : ∀ (j : Nat) t v, Try.f8.params[j]? = some t → args[j]? = some v → Value.okWide Try.prog W .any base t v := hval0
  have hW' := hW
  obtain ⟨p, q, hA0, hV, rfl, hfz, hnd⟩ := hW
  have hA : DataW.TrodAll enc Try.prog W 0 (fun _ => true) true Try.f8.params.toList args.toList ds p := hA0
  rw [Try.params8] at hA hval
  obtain ⟨v0, vs0, d0, ds0, p0, q0, hargs, rfl, rfl, h0, r0⟩ := trodAll_cons hA
  obtain ⟨v1, vs1, d1, ds1, p1, q1, rfl, rfl, rfl, h1, r1⟩ := trodAll_cons r0
  obtain ⟨v2, vs2, d2, ds2, p2, q2, rfl, rfl, rfl, h2, r2⟩ := trodAll_cons r1
  obtain ⟨v3, vs3, d3, ds3, p3, q3, rfl, rfl, rfl, h3, r3⟩ := trodAll_cons r2
  obtain ⟨v4, vs4, d4, ds4, p4, q4, rfl, rfl, rfl, h4, r4⟩ := trodAll_cons r3
  obtain ⟨rfl, rfl, rfl⟩ := trodAll_nil r4
  obtain rfl : args = #[v0, v1, v2, v3, v4] := by cases args; simp_all
  obtain ⟨rfl, rfl⟩ := trodVars_none hV
  have hlt := fun x hx => hW'.lt x hx
  obtain ⟨a0, rfl, rfl, rfl, w0⟩ := open_int Try.underlying3 (hval 0 3 v0 rfl rfl) h0
  have t1 := h1
  obtain ⟨A1, n1, c1, x1, rfl, e1, s1⟩ := open_acts (hval 1 22 v1 rfl rfl) h1
  obtain ⟨a2, rfl, rfl, rfl, w2⟩ := open_int Try.underlying2 (hval 2 2 v2 rfl rfl) h2
  obtain ⟨a3, rfl, rfl, rfl, w3⟩ := open_int Try.underlying61 (hval 3 61 v3 rfl rfl) h3
  obtain ⟨a4, rfl, rfl, rfl, w4⟩ := open_int Try.underlying61 (hval 4 61 v4 rfl rfl) h4
  clear hA0 hval0
  refine (walk a0 A1 n1 c1 x1 a2 a3 a4 W e1 s1 w3 w4).mono fun e W' ⟨he, hg⟩ => ?_
  subst he
  exact ⟨_, rfl, law_post (pv := []) hW' (fun _ _ _ => (trodAll_cons_mk (shut_bool Try.underlying4 _) trodAll_mk0)) (fun sp hsp => (trodAll_cons_mk (shut_int Try.underlying3 w0) (trodAll_cons_mk (arg_stays (by decide) t1 hg (by simp +contextual) hlt hsp laid) (trodAll_cons_mk (shut_int Try.underlying2 w2) (trodAll_cons_mk (shut_int Try.underlying61 w3) (trodAll_cons_mk (shut_int Try.underlying61 w4) trodAll_mk0)))))) (fun _ _ => rfl) (by simp)
    hg (ok_one (by kernel_rfl) rfl (okWide_bool_mk Try.underlying4 _))⟩

theorem over : Rows.blockReadsRow.holds Try.pinned (OpenSpec.ofChange Rows.blockReadsSpec) :=
  OpenClaim.holds_of_wide 8 Try.f8 rfl rfl rfl rfl rfl rfl rfl ⟨rfl, rfl, rfl, rfl, rfl⟩ rfl rfl rfl rfl rfl (by kernel_rfl) Try.func8 (by kernel_rfl)
    (of_decide_eq_true (by kernel_rfl)) (by unfold Func.isWrapper; first | (rw [if_pos (by decide +kernel)]; kernel_rfl) | (rw [if_neg (by decide +kernel)]; exact ⟨rfl, rfl⟩))
    (fun os started H enc _ => lifted os started H enc)

/-- The statement. -/
theorem proved : Rows.BlockReadsSaid :=
  over
end Go.Proofs.Ytpnnonphagddgaa.blockReads
