/- For every room and every list of acts the law BlockDoes returns true, and what is handed in reads as it did; there are no conditions. -/
import Derived.Test.YtpnnonphagddgaaDoes
import Derived.Test.YtpnnonphagddgaaLaw1
import Derived.Deep.RegionWith
import Derived.ProofKit
import Derived.OpenShut
namespace Go.Proofs.Ytpnnonphagddgaa.blockDoes
open Go.ChangeShapes Go.WideShapes Go.ChangeAt Go.RowKit
set_option linter.unusedVariables false

theorem own : ownKnob Try.prog.godebug = none := by kernel_rfl
theorem laid : laidOutB Try.prog = true := by kernel_rfl

theorem e_upd (K : Nat) : updF (fun _ : Nat => AB.empty) K AB.empty = fun _ => AB.empty := by
  funext x
  unfold updF
  split <;> rfl

theorem row_only {w w' : World} {lo n c : Nat} {A : Option Addr} {f : Nat → UInt8} (h : Row w lo A n c f) (ho : Only (fun _ => False) w w') : Row w' lo A n c f := by
  obtain ⟨h1, h2⟩ := h
  refine ⟨h1, ?_⟩
  rcases h2 with h2 | ⟨g, h2, h3, h4⟩
  · exact .inl h2
  · exact .inr ⟨g, h2, h3, (ho.block g (Array.getElem?_eq_some_iff.1 h4).1 (fun hf => hf)).trans h4⟩

set_option maxHeartbeats 60000000 in
set_option maxRecDepth 100000 in
theorem walk (room : Int) (A : Option Addr) (n c : Nat) (F : Nat → Act5) (w : World) (k1 : n ≤ c ∧ c ≤ maxLen) (hF : Acts w w.heap.size A n F) :
    Calls Try.prog 3 #[.int .i64 room, .slice A n c] w (AwakeE w) := by
  have hnm : (n : Int) ≤ 9223372036854775807 := by have := k1.1; have := k1.2; unfold maxLen at this; omega
  clear k1
  have HF0 := Lib.hid hF
  clear hF
  go_enter Try.func3, Try.ntmps3
  go_wp2_with fail
  refine (awake_any _).mono ?_
  rintro e w1 ⟨rfl, hb1⟩
  have HB1 := Lib.hid hb1
  clear hb1
  by_cases hr : 0 ≤ room ∧ room ≤ 65536
  · obtain ⟨R, hR⟩ : ∃ R : Nat, room = (R : Int) := ⟨room.toNat, by omega⟩
    have HRM := Lib.hid (show R ≤ 65536 by omega)
    subst hR
    clear hr
    go_wp2_with fail
    refine (new_yes R w1 HRM.out).mono ?_
    rintro e w2 ⟨rfl, hw2⟩
    have HW2 := Lib.hid hw2
    clear hw2
    go_wp2_with fail
    refine (rnew_yes R w2 HRM.out).mono ?_
    rintro e w3 ⟨rfl, hw3⟩
    have HW3 := Lib.hid hw3
    clear hw3
    have HD0 := Lib.hid (duo_start HB1.out HRM.out HW2.out HW3.out rfl rfl)
    go_wp2_with fail
    have hz4 : (w3.alloc (.cells #[.pointer none, .pointer none, .pointer none, .pointer none] 29)).heap.size = w3.heap.size + 1 := by simp
    rw [hz4] at HD0
    clear hz4
    generalize ((w3.alloc (.cells #[.pointer none, .pointer none, .pointer none, .pointer none] 29)).alloc (.cells #[.pointer none, .pointer none, .pointer none, .pointer none] 31)) = w5 at *
    have hgh : w3.heap.size ≠ w3.heap.size + 1 := by omega
    generalize w3.heap.size + 1 = h at *
    generalize w3.heap.size = g at *
    generalize w2.heap.size = Q at *
    generalize w1.heap.size = S at *
    clear HB1 HW2 HW3
    go_loopg [47] 4 (fun gg s wr => ∃ (K : Nat) (B M : Nat → Nat) (r : Nat → RX), gg + K = 4 ∧ s = .int .i64 (K : Int) ∧ Hid (Duo w wr g h S Q R K B M r (fun _ => AB.empty) (fun _ => AB.empty)))
    case atStart => exact ⟨0, _, _, _, by omega, rfl, HD0⟩
    case round =>
      clear HD0
      obtain ⟨K, B, M, r, hgK, rfl, HD⟩ := hrel
      by_cases hK : K < 4
      · have hKi : (K : Int) < 4 := by omega
        have HSB := Lib.hid (sys_body HD.out.sys)
        go_wp2_with fail
        refine HSB.out.mono ?_
        rintro e w6 ⟨rfl, hs6, hb6⟩
        rw [e_upd] at hs6
        have d0 := (hb6.cell (p := ⟨g, K, none⟩) HD.out.gl).trans (HD.out.ag K hK)
        have e0 := (World.frozen?_of_block (a := ⟨g, K, none⟩) (hb6.block g HD.out.gl)).trans (HD.out.fg K)
        have d1 := (hb6.cell (p := ⟨h, K, none⟩) HD.out.hl).trans (HD.out.ah K hK)
        have e1 := (World.frozen?_of_block (a := ⟨h, K, none⟩) (hb6.block h HD.out.hl)).trans (HD.out.fh K)
        rw [if_neg (Nat.lt_irrefl _)] at d0 d1
        have hl6 : h < w6.heap.size := Nat.lt_of_lt_of_le HD.out.hl hb6.size
        have HM := HD.out.more hK (by rw [e_upd]; exact hs6) (p := wr.heap.size + 1) (q := wr.heap.size) hb6 (Nat.le_succ _) (Nat.le_refl _)
        rw [e_upd, World.setCell_alloc_past _ _ _ _ (by simp [World.setCell]; exact hl6)] at HM
        have HDM := Lib.hid HM
        clear HM HSB HD hs6 hb6
        go_wp2_with fail
        go_roundg (gk - 1)
        case measure => omega
        case rel => exact ⟨K + 1, _, _, _, by omega, by go_num, HDM⟩
      · have hKi : ¬ ((K : Int) < 4) := by omega
        obtain rfl : K = 4 := by omega
        clear hK hKi hgK
        go_wp2_with fail
        go_loopg [10] 60 (fun gg s wr => ∃ (k : Nat) (b : Nat → AB) (r : Nat → RX), gg + k = 60 ∧ k ≤ n ∧ s = .int .i64 (k : Int) ∧ Hid (Duo w wr g h S Q R 4 B M r b b))
        case atStart => exact ⟨0, _, r, by omega, by omega, rfl, HD⟩
        case round =>
          clear HD
          obtain ⟨k, b, r, hgk, hk, rfl, HT⟩ := hrel
          have hk60 : k ≤ 60 := by omega
          by_cases hgo : k < n ∧ k < 60
          · obtain ⟨hkn, hk2⟩ := hgo
            obtain ⟨ab, ao, rfl, hab, f0, f1, f2, f3, f4, hsrc⟩ := (HF0.out.below HT.out.bel) k hkn
            generalize F k = x at *
            have habr : ab < wr.heap.size := Nat.lt_of_lt_of_le hab HT.out.bel.size
            have HSRC := Lib.hid hsrc
            have HDN := Lib.hid (HT.out.below (below_one wr (.cells #[.int .i64 x.kind, .int .i64 x.who, .int .i64 x.off, .int .i64 x.num, .slice x.A x.len x.cap] 38)))
            have HAN := Lib.hid (act1_new wr x)
            have HSN := Lib.hid (HSRC.out.below ((below_one wr (.cells #[.int .i64 x.kind, .int .i64 x.who, .int .i64 x.off, .int .i64 x.num, .slice x.A x.len x.cap] 38)).mono HT.out.bel.size))
            have HLN := Lib.hid (show ¬ FP S 4 B M wr.heap.size ∧ wr.heap.size ≠ Q ∧ wr.heap.size ≠ g ∧ wr.heap.size ≠ h ∧ ∀ k, k < 4 → ¬ RFx (r k) wr.heap.size from
              ⟨fun hf => by have := HT.out.sys.ltF hf; omega, by have := HT.out.ql; omega, by have := HT.out.gl; omega, by have := HT.out.hl; omega, fun k hk hf => by have := (HT.out.rb k hk).ltF hf; omega⟩)
            have HLG := Lib.hid (fun W => large_any x W (Nat.le_trans hsrc.1.1 hsrc.1.2))
            clear hsrc hab HT
            go_wp2_with fail
            generalize (wr.alloc (.cells #[.int .i64 x.kind, .int .i64 x.who, .int .i64 x.off, .int .i64 x.num, .slice x.A x.len x.cap] 38)) = W at *
            clear f0 f1 f2 f3 f4 habr
            generalize wr.heap.size = l at *
            have HLW := Lib.hid (HLG.out W)
            clear HLG HSRC
            cases hlb : largeB x
            · rw [hlb] at HLW
              refine HLW.out.mono ?_
              rintro e w4 ⟨rfl, hb4⟩
              have HD4 := Lib.hid (HDN.out.below hb4)
              have HA4 := Lib.hid (HAN.out.below hb4)
              have HS4 := Lib.hid (HSN.out.below (hb4.mono HDN.out.bel.size))
              have HLL := Lib.hid (large_len hlb)
              clear HDN HAN HSN hb4 HLW hlb
              have a0 := HA4.out.c0
              have a1 := HA4.out.c1
              obtain ⟨kk, hkk, hwh⟩ := which x.who
              have hkki : (kk : Int) < 4 := by omega
              by_cases k0 : x.kind = 0
              · as_aux_lemma =>
                have a4 := HA4.out.c4
                rw [k0] at a0
                have HO0 := Lib.hid (World.ownsRow_lit w4 #[] 0 (base := w4.heap.size) (e := 5) (size := 1) (Nat.le_refl _) (by unfold maxLen; omega) (by simp))
                have HSX := Lib.hid (HS4.out.below ((below_one w4 (.cells #[] 5)).mono HD4.out.bel.size))
                have a5 := (HA4.out.below (below_one w4 (.cells #[] 5))).c4
                have hl4 := HA4.out.lt
                have HN0 := Lib.hid (show w4.heap.size ≤ (w4.alloc (.cells #[] 5)).heap.size by simp)
                go_wp2_with (at_builtin; go_must (refine wpList_copy _ rfl (.tmp 82) (.tmp 84) rfl w4.heap.size _ rfl HO0.out x.A x.len x.cap x.f rfl (fun i hi => by obtain ⟨b1, o1, e1, _, c1⟩ := HSX.out.2 i hi; exact ⟨b1, o1, e1, c1⟩) (by have := HLL.out; omega) HN0.out ?_); intro v1 w5 hown1 hgr)
                obtain ⟨Ao, co, rfl⟩ := own_slice hown1
                have hb5 := own_grown hgr
                have HD5 := Lib.hid (HD4.out.below hb5).drew
                have HA5 := Lib.hid ((HA4.out.below hb5).below (Below.refl _ _).drew)
                have HS5 := Lib.hid (HS4.out.below (hb5.mono HD4.out.bel.size))
                have HO5 := Lib.hid (own_only hown1 (Only.of_below (F := fun _ => False) (Below.refl w5.heap.size w5).drew) (fun _ _ h => h))
                have hcap := own_cap hown1
                have HFLT := Lib.hid (fun y hy => HD4.out.sys.ltF (x := y) hy)
                have HWC := Lib.hid (HD5.out.write hkk x.off Ao x.len co x.f (own_bytes HO5.out HFLT.out) hcap.1 hcap.2)
                have c0 := HD5.out.agk hkk
                have a2 := HA5.out.c2
                clear HO0 HSX HN0 hown1 hgr hb5 hcap a0 a1 a4 a5 hl4
                go_upto_region 25 with fail
                go_region_held3 (fun w' => w'.cell? ⟨g, kk, none⟩ = some (Pq (B kk)) ∧ w'.cell? ⟨l, 2, none⟩ = some (.int .i64 x.off))
                  (first | exact ⟨c0, a2⟩ | exact ⟨c6, a6⟩ | assumption | go_keep)
                  (first
                  | (go_at_call 15; ((with_reducible refine HWC.out.mono ?_); rintro e w6 ⟨p, err, rfl, hw, hd6, ho6⟩; have c6 := hd6.agk hkk; have a6 := (HA5.out.only ho6 HLN.out.1).c2)))
                all_goals
                  have HD6 := Lib.hid hd6.drew
                  have HA6 := Lib.hid (HA5.out.only ho6 HLN.out.1).drew
                  have HO6 := Lib.hid (own_only (own_only HO5.out ho6 (fun y hy hf => by have := (HO5.out.lt y hy).1; have := HFLT.out y hf; omega)) (Only.of_below (F := fun _ => False) (Below.refl w6.heap.size w6).drew) (fun _ _ h => h))
                  have HS6 := Lib.hid ((HS5.out.below ((Below.refl w5.heap.size w5).drew.mono HD5.out.bel.size)).below (ho6.below (Below.refl _ _) HD5.out.bel.size HD5.out.lo))
                  have HW1 := Lib.hid hw
                  have HNF := Lib.hid (show ∀ y, RFx (r kk) y ∨ y = Q → w.heap.size ≤ y ∧ y < w4.heap.size from fun y hy => by
                    rcases hy with h1 | rfl
                    · exact ⟨(HD4.out.out kk hkk y h1).1, (HD4.out.rb kk hkk).ltF h1⟩
                    · exact ⟨HD4.out.oq.1, HD4.out.ql⟩)
                  have HSD := Lib.hid (HS6.out.below ((Below.refl w6.heap.size w6).drew.mono hd6.bel.size))
                  have HRW := Lib.hid (HD6.out.rwrite hkk (HD4.out.sys.bod kk hkk).ok HD4.out.sys.le x.off x.A x.len x.cap x.f (HSD.out.inn hd6.bel.size (fun y hy => (HNF.out y hy).1)) HSD.out.1.1 HSD.out.1.2)
                  have d1 := HD6.out.ahk hkk
                  have b2 := HA6.out.c2
                  have b4 := HA6.out.c4
                  have HLN2 := Lib.hid (show ¬ (RFx (r kk) l ∨ l = Q) from fun h1 => by
                    rcases h1 with h1 | h1
                    · exact HLN.out.2.2.2.2 kk hkk h1
                    · exact HLN.out.2.1 h1)
                  clear hw hd6 ho6 c6 a6 c0 a2 HWC HS6 HO5 HA5 HD5 HS5
                  go_upto_region 26 with fail
                  go_region_held3 (fun w' => w'.cell? ⟨h, kk, none⟩ = some (Pq (r kk).C) ∧ w'.cell? ⟨l, 2, none⟩ = some (.int .i64 x.off) ∧ w'.cell? ⟨l, 4, none⟩ = some (.slice x.A x.len x.cap))
                    (first | exact ⟨d1, b2, b4⟩ | exact ⟨d7, e2, e4⟩ | assumption | go_keep)
                    (first
                    | (go_at_call 16; ((with_reducible refine HRW.out.mono ?_); rintro e w7 ⟨q, err2, r', rfl, hw2, hd7, hnew, ho7⟩; have e2 := (HA6.out.only ho7 HLN2.out).c2; have e4 := (HA6.out.only ho7 HLN2.out).c4; have d7 : w7.cell? ⟨h, kk, none⟩ = some (Pq (r kk).C) := (World.cell?_of_block (a := ⟨h, kk, none⟩) (ho7.block h HD6.out.hl (fun hf => by rcases hf with h1 | h1; exact (HD6.out.out kk hkk h h1).2.2.2.1 rfl; exact HD6.out.oq.2.2.2 h1.symm))).trans d1)))
                  all_goals
                    obtain ⟨rfl, rfl⟩ := HW1.out.eq hw2
                    have HO7 := Lib.hid (own_only HO6.out ho7 (fun y hy hf => by have := (HO6.out.lt y hy).1; have := (HNF.out y hf).2; omega))
                    have HB7 := Lib.hid ((HSD.out.below (ho7.below (Below.refl _ _) HD6.out.bel.size (fun y hy => (HNF.out y hy).1))).inn (F := fun _ => False) hd7.bel.size (fun _ hf => hf.elim))
                    have HPS := Lib.hid (show ∀ y, w4.heap.size ≤ y → y < w6.heap.size → ¬ FP S 4 B M y ∧ y ≠ g ∧ y ≠ h ∧ y ≠ Q ∧ ∀ k, k < 4 → ¬ RFx (r' k) y from fun y h1 h2 => by
                      have h3 := HD4.out.past h1
                      refine ⟨h3.1, h3.2.1, h3.2.2.1, h3.2.2.2.1, fun k hk hf => ?_⟩
                      rcases hnew k hk y hf with h4 | h4
                      · exact h3.2.2.2.2 k hk h4
                      · have h5 : w6.heap.size ≤ y := h4
                        omega)
                    have HSP := Lib.hid ((spo_own HO6.out).only ho7 (fun y h1 _ hf => by have := (HNF.out y hf).2; omega))
                    have cv1 := own_conv HO7.out
                    have cv2 := HB7.out.conv (c := x.cap)
                    have HD7 := Lib.hid hd7
                    generalize updF b kk (Go.Proofs.Ytpnnonphagddgaa.wr (b kk) x.off p x.f) = b' at *
                    generalize strF x.len x.f = str at cv1 cv2
                    have hlen0 : (x.len : Int) ≤ 4096 := by have := HLL.out; omega
                    clear hw2 hd7 hnew ho7 HRW HD6 HA6 HO6 HSD HO7 HB7 d1 b2 b4 d7 e2 HW1
                    go_wp2_with fail
                    go_loopg [127] x.len (fun g2 s wu => ∃ i : Nat, g2 + i = x.len ∧ s = .int .i64 (i : Int) ∧ Hid (Duo w wu g h S Q R 4 B M r' b' b') ∧ Hid (Spo wu w4.heap.size w6.heap.size Ao x.len))
                    case atStart => exact ⟨0, by omega, rfl, HD7, HSP⟩
                    case round =>
                      clear HD7 HSP cv1 cv2 e4
                      obtain ⟨i, hgi, rfl, HD, HSP⟩ := hrel
                      by_cases hi : i < x.len
                      · have hii : (i : Int) < (x.len : Int) := by omega
                        obtain ⟨y, rfl, hy1, hy2, hy3, ⟨z, hz⟩, hfz⟩ := HSP.out i hi
                        have HST := Lib.hid (fun t : Int => And.intro (HD.out.other (set_only' wr y i (.int .u8 t)) (Nat.le_trans HD4.out.bel.size hy1) (HPS.out y hy1 hy2)) (HSP.out.set hi rfl t))
                        go_wp2_with fail
                        go_roundg (gk - 1)
                        case measure => omega
                        case rel => exact ⟨i + 1, by omega, by go_num, Lib.hid (HST.out _).1, Lib.hid (HST.out _).2⟩
                      · have hii : ¬ ((i : Int) < (x.len : Int)) := by omega
                        clear HSP HPS HNF HLN2 HFLT HD4 HA4 HS4 HLN
                        have HDn := Lib.hid (fun nq => HD.out.below (below_drewN wr nq))
                        have q0 : wr.cell? ⟨Q, 0, none⟩ = some (.int .i64 (R : Int)) := HD.out.sto.c0
                        have q1 : wr.cell? ⟨Q, 1, none⟩ = some (.int .i64 ((tot 4 b' : Nat) : Int)) := HD.out.sto.c1
                        have c0 := HD.out.agk hkk
                        have c1 := HD.out.ahk hkk
                        obtain ⟨A0, cc0, s0, _⟩ := HD.out.rsize hkk
                        have C1 := fun nq => (sys_used (HDn.out nq).sys).mono (fun _ _ ⟨he, hw⟩ => And.intro he hw.symm)
                        have C2 := fun nq => (sys_room (HDn.out nq).sys).mono (fun _ _ ⟨he, hw⟩ => And.intro he hw.symm)
                        have C3 := fun nq => (sys_size (HDn.out nq).sys hkk).mono (fun _ _ ⟨he, hw⟩ => And.intro he hw.symm)
                        have C4 := fun nq => (sys_chunks (HDn.out nq).sys hkk).mono (fun _ _ ⟨he, hw⟩ => And.intro he hw.symm)
                        have C5 := fun nq => (rchunks_any ((HDn.out nq).rb kk hkk)).mono (fun _ _ ⟨he, hw⟩ => And.intro he hw.symm)
                        generalize tot 4 b' = tt at q1 C1
                        generalize (b' kk).size = zz at s0 C3
                        generalize (b' kk).n = nn at C4 C5
                        as_aux_lemma =>
                        go_upto_region 50 with fail
                        go_quiet (first
                          | (go_at_call 22; exact Calls.quiet_of_same (C1 _))
                          | (go_at_call 23; exact Calls.quiet_of_same (C2 _))
                          | (go_at_call 24; exact Calls.quiet_of_same (C3 _))
                          | (go_at_call 25; exact Calls.quiet_of_same (C4 _))
                          | (go_at_call 26; exact Calls.quiet_of_same (C5 _)))
                        clear C1 C2 C3 C4 C5 q0 q1 c0 c1 s0
                        go_wp2_with fail
                        go_roundg (60 - (k + 1))
                        case measure => omega
                        case rel => exact ⟨k + 1, b', r', by omega, by omega, by go_num, Lib.hid (HDn.out _)⟩
              · have k0b : (x.kind == 0) = false := by simpa using k0
                by_cases k1 : x.kind = 1
                · as_aux_lemma =>
                  rw [k1] at a0
                  have HD5 := Lib.hid HD4.out.drew
                  have HA5 := Lib.hid HA4.out.drew
                  have c0 := HD5.out.agk hkk
                  have a2 := HA5.out.c2
                  have a3 := HA5.out.c3
                  have hg5 := HD5.out.gl
                  have hl5 := HA5.out.lt
                  have HRD := Lib.hid (HD5.out.read hkk x.off x.num)
                  have HRR0 := Lib.hid (fun W (d : Duo w W g h S Q R 4 B M r b b) => d.rread hkk (HD4.out.sys.bod kk hkk).ok x.off x.num)
                  have hrl : (readR (b kk) x.off x.num).2 ≤ 65536 := by
                    have := (HD4.out.sys.bod kk hkk).ok.size
                    unfold readR
                    split
                    · exact Nat.zero_le _
                    · exact Nat.le_trans (Nat.min_le_right _ _) (Nat.le_trans (Nat.sub_le _ _) this)
                  unfold ReadE at HRD
                  unfold RReadE at HRR0
                  generalize (readR (b kk) x.off x.num).2 = rn at *
                  generalize (readR (b kk) x.off x.num).1 = re at *
                  generalize (fun j => (b kk).dat (x.off.toNat + j)) = ff at *
                  clear k0 k1 k0b
                  go_upto_region 35 with fail
                  clear a0 a1
                  go_region_held3 (fun w' => w'.cell? ⟨g, kk, none⟩ = some (Pq (B kk)) ∧ w'.cell? ⟨l, 2, none⟩ = some (.int .i64 x.off) ∧ w'.cell? ⟨l, 3, none⟩ = some (.int .i64 x.num))
                    (first | exact ⟨c0, a2, a3⟩ | exact ⟨c6, a6, a7⟩ | assumption | go_keep)
                    (first
                    | (go_at_call 17; ((with_reducible refine HRD.out.mono ?_); rintro e w6 ⟨A1, cc1, rfl, hrow, hb6⟩; have c6 := (hb6.cell (p := ⟨g, kk, none⟩) hg5).trans c0; have a6 := (hb6.cell (p := ⟨l, 2, none⟩) hl5).trans a2; have a7 := (hb6.cell (p := ⟨l, 3, none⟩) hl5).trans a3)))
                  all_goals
                    have HD6 := Lib.hid (HD5.out.below hb6).drew
                    have HA6 := Lib.hid (HA5.out.below hb6).drew
                    have HROW := Lib.hid hrow
                    have HS6 := Lib.hid (spo_row hrow)
                    have d6 := HD6.out.ahk hkk
                    have b2 := HA6.out.c2
                    have b3 := HA6.out.c3
                    have hh6 := HD6.out.hl
                    have hl6 := HA6.out.lt
                    have HRR := Lib.hid (HRR0.out _ HD6.out)
                    clear c6 a6 a7 c0 a2 a3 hrow hb6 HRD HRR0 hg5 hl5 HD5 HA5
                    go_upto_region 36 with fail
                    go_region_held3 (fun w' => w'.cell? ⟨h, kk, none⟩ = some (Pq (r kk).C) ∧ w'.cell? ⟨l, 2, none⟩ = some (.int .i64 x.off) ∧ w'.cell? ⟨l, 3, none⟩ = some (.int .i64 x.num))
                      (first | exact ⟨d6, b2, b3⟩ | exact ⟨d7, e2, e3⟩ | assumption | go_keep)
                      (first
                      | (go_at_call 18; ((with_reducible refine HRR.out.mono ?_); rintro e w7 ⟨v7, rfl, hown, hb7⟩; obtain ⟨A2, cc2, rfl⟩ := own_slice hown; have d7 := (hb7.cell (p := ⟨h, kk, none⟩) hh6).trans d6; have e2 := (hb7.cell (p := ⟨l, 2, none⟩) hl6).trans b2; have e3 := (hb7.cell (p := ⟨l, 3, none⟩) hl6).trans b3)))
                    all_goals
                      have HD7 := Lib.hid (HD6.out.below hb7)
                      have HO67 := Lib.hid (show Only (fun _ => False) w6 w7 from ⟨hb7.os, hb7.tape, hb7.output, hb7.size, fun k hk _ => hb7.block k hk⟩)
                      have HSP := Lib.hid (HS6.out.only HO67.out (fun _ _ _ hf => hf))
                      have HPS := Lib.hid (show ∀ y, w4.heap.size ≤ y → y < w6.heap.size → ¬ FP S 4 B M y ∧ y ≠ g ∧ y ≠ h ∧ y ≠ Q ∧ ∀ k, k < 4 → ¬ RFx (r k) y from fun y h1 _ => HD4.out.past h1)
                      have cv1 := (row_only HROW.out HO67.out).conv
                      have cv2 := own_conv hown
                      obtain ⟨r', hr'⟩ : ∃ r', r' = r := ⟨_, rfl⟩
                      obtain ⟨b', hb'⟩ : ∃ b', b' = b := ⟨_, rfl⟩
                      rw [← hr', ← hb'] at HD7
                      rw [← hr'] at HPS
                      generalize strF rn ff = str at cv1 cv2
                      have hrni : (rn : Int) ≤ 65536 := by omega
                      clear hown hb7 HRR HD6 HA6 HROW HS6 HO67 d6 b2 b3 d7 e2 e3 hh6 hl6 hr' hb'
                      go_wp2_with fail
                      go_loopg [175] rn (fun g2 s wu => ∃ i : Nat, g2 + i = rn ∧ s = .int .i64 (i : Int) ∧ Hid (Duo w wu g h S Q R 4 B M r' b' b') ∧ Hid (Spo wu w4.heap.size w6.heap.size A1 rn))
                      case atStart => exact ⟨0, by omega, rfl, HD7, HSP⟩
                      case round =>
                        clear HD7 HSP cv1 cv2
                        obtain ⟨i, hgi, rfl, HD, HSP⟩ := hrel
                        by_cases hi : i < rn
                        · have hii : (i : Int) < (rn : Int) := by omega
                          obtain ⟨y, rfl, hy1, hy2, hy3, ⟨z, hz⟩, hfz⟩ := HSP.out i hi
                          have HST := Lib.hid (fun t : Int => And.intro (HD.out.other (set_only' wr y i (.int .u8 t)) (Nat.le_trans HD4.out.bel.size hy1) (HPS.out y hy1 hy2)) (HSP.out.set hi rfl t))
                          go_wp2_with fail
                          go_roundg (gk - 1)
                          case measure => omega
                          case rel => exact ⟨i + 1, by omega, by go_num, Lib.hid (HST.out _).1, Lib.hid (HST.out _).2⟩
                        · have hii : ¬ ((i : Int) < (rn : Int)) := by omega
                          clear HSP HPS HD4 HA4 HS4 HLN
                          have HDn := Lib.hid (fun nq => HD.out.below (below_drewN wr nq))
                          have q0 : wr.cell? ⟨Q, 0, none⟩ = some (.int .i64 (R : Int)) := HD.out.sto.c0
                          have q1 : wr.cell? ⟨Q, 1, none⟩ = some (.int .i64 ((tot 4 b' : Nat) : Int)) := HD.out.sto.c1
                          have c0 := HD.out.agk hkk
                          have c1 := HD.out.ahk hkk
                          obtain ⟨A0, cc0, s0, _⟩ := HD.out.rsize hkk
                          have C1 := fun nq => (sys_used (HDn.out nq).sys).mono (fun _ _ ⟨he, hw⟩ => And.intro he hw.symm)
                          have C2 := fun nq => (sys_room (HDn.out nq).sys).mono (fun _ _ ⟨he, hw⟩ => And.intro he hw.symm)
                          have C3 := fun nq => (sys_size (HDn.out nq).sys hkk).mono (fun _ _ ⟨he, hw⟩ => And.intro he hw.symm)
                          have C4 := fun nq => (sys_chunks (HDn.out nq).sys hkk).mono (fun _ _ ⟨he, hw⟩ => And.intro he hw.symm)
                          have C5 := fun nq => (rchunks_any ((HDn.out nq).rb kk hkk)).mono (fun _ _ ⟨he, hw⟩ => And.intro he hw.symm)
                          generalize tot 4 b' = tt at q1 C1
                          generalize (b' kk).size = zz at s0 C3
                          generalize (b' kk).n = nn at C4 C5
                          as_aux_lemma =>
                          go_upto_region 50 with fail
                          go_quiet (first
                            | (go_at_call 22; exact Calls.quiet_of_same (C1 _))
                            | (go_at_call 23; exact Calls.quiet_of_same (C2 _))
                            | (go_at_call 24; exact Calls.quiet_of_same (C3 _))
                            | (go_at_call 25; exact Calls.quiet_of_same (C4 _))
                            | (go_at_call 26; exact Calls.quiet_of_same (C5 _)))
                          clear C1 C2 C3 C4 C5 q0 q1 c0 c1 s0
                          go_wp2_with fail
                          go_roundg (60 - (k + 1))
                          case measure => omega
                          case rel => exact ⟨k + 1, b', r', by omega, by omega, by go_num, Lib.hid (HDn.out _)⟩
                · have k1b : (x.kind == 1) = false := by simpa using k1
                  by_cases k2 : x.kind = 2
                  · as_aux_lemma =>
                    rw [k2] at a0
                    have HD5 := Lib.hid HD4.out.drew
                    have HA5 := Lib.hid HA4.out.drew
                    have c0 := HD5.out.agk hkk
                    have d0 := HD5.out.ahk hkk
                    have a2 := HA5.out.c2
                    have HCC := Lib.hid (HD5.out.cutc hkk x.off)
                    have HLN2 := Lib.hid (show ¬ (RFx (r kk) l ∨ l = Q) from fun h1 => by
                      rcases h1 with h1 | h1
                      · exact HLN.out.2.2.2.2 kk hkk h1
                      · exact HLN.out.2.1 h1)
                    have HNH := Lib.hid (show ¬ (RFx (r kk) h ∨ h = Q) from fun h1 => by
                      rcases h1 with h1 | h1
                      · exact (HD4.out.out kk hkk h h1).2.2.2.1 rfl
                      · exact HD4.out.oq.2.2.2 h1.symm)
                    clear k0 k1 k2 k0b k1b
                    go_upto_region 45 with fail
                    clear a0 a1
                    go_region_held3 (fun w' => w'.cell? ⟨g, kk, none⟩ = some (Pq (B kk)) ∧ w'.cell? ⟨h, kk, none⟩ = some (Pq (r kk).C) ∧ w'.cell? ⟨l, 2, none⟩ = some (.int .i64 x.off))
                      (first | exact ⟨c0, d0, a2⟩ | exact ⟨c6, d6, a6⟩ | exact ⟨c7, d7, a7⟩ | assumption | go_keep)
                      (first
                      | (go_at_call 19; ((with_reducible refine HCC.out.mono ?_); rintro e w6 ⟨rfl, hd6, ho6⟩; have c6 := hd6.agk hkk; have d6 := hd6.ahk hkk; have hA6 := HA5.out.only ho6 HLN.out.1; have a6 := hA6.c2; have HRC := hd6.rcut hkk (HD4.out.sys.bod kk hkk).ok HD4.out.sys.le x.off))
                      | (go_at_call 20; ((with_reducible refine HRC.mono ?_); rintro e w7 ⟨rfl, r', hd7, hnew, ho7⟩; have c7 := hd7.agk hkk; have d7 : w7.cell? ⟨h, kk, none⟩ = some (Pq (r kk).C) := (World.cell?_of_block (a := ⟨h, kk, none⟩) (ho7.block h hd6.hl HNH.out)).trans d6; have a7 := (hA6.only ho7 HLN2.out).c2)))
                    all_goals
                      have hCC : (r' kk).C = (r kk).C := by
                        have h1 := d7.symm.trans (hd7.ahk hkk)
                        simp at h1
                        exact h1.symm
                      have HD := Lib.hid hd7
                      generalize updF b kk (cut (b kk) x.off) = b' at *
                      clear hd7 hnew ho7 c7 d7 a7 HRC c6 d6 a6 hA6 hd6 ho6 c0 d0 a2 HCC HD5 HA5 HNH HLN2 HD4 HA4 HS4
                      have HDn := Lib.hid (fun nq => HD.out.below (below_drewN w7 nq))
                      have q0 : w7.cell? ⟨Q, 0, none⟩ = some (.int .i64 (R : Int)) := HD.out.sto.c0
                      have q1 : w7.cell? ⟨Q, 1, none⟩ = some (.int .i64 ((tot 4 b' : Nat) : Int)) := HD.out.sto.c1
                      have c0 := HD.out.agk hkk
                      have c1 := HD.out.ahk hkk
                      obtain ⟨A0, cc0, s0, _⟩ := HD.out.rsize hkk
                      have C1 := fun nq => (sys_used (HDn.out nq).sys).mono (fun _ _ ⟨he, hw⟩ => And.intro he hw.symm)
                      have C2 := fun nq => (sys_room (HDn.out nq).sys).mono (fun _ _ ⟨he, hw⟩ => And.intro he hw.symm)
                      have C3 := fun nq => (sys_size (HDn.out nq).sys hkk).mono (fun _ _ ⟨he, hw⟩ => And.intro he hw.symm)
                      have C4 := fun nq => (sys_chunks (HDn.out nq).sys hkk).mono (fun _ _ ⟨he, hw⟩ => And.intro he hw.symm)
                      have C5 := fun nq => (rchunks_any ((HDn.out nq).rb kk hkk)).mono (fun _ _ ⟨he, hw⟩ => And.intro he hw.symm)
                      rw [hCC] at c1 s0 C5
                      have HCC := Lib.hid hCC
                      clear hCC
                      generalize tot 4 b' = tt at q1 C1
                      generalize (b' kk).size = zz at s0 C3
                      generalize (b' kk).n = nn at C4 C5
                      as_aux_lemma =>
                      go_upto_region 50 with fail
                      go_quiet (first
                        | (go_at_call 22; exact Calls.quiet_of_same (C1 _))
                        | (go_at_call 23; exact Calls.quiet_of_same (C2 _))
                        | (go_at_call 24; exact Calls.quiet_of_same (C3 _))
                        | (go_at_call 25; exact Calls.quiet_of_same (C4 _))
                        | (go_at_call 26; exact Calls.quiet_of_same (C5 _)))
                      clear C1 C2 C3 C4 C5 q0 q1 c0 c1 s0
                      go_wp2_with fail
                      go_roundg (60 - (k + 1))
                      case measure => omega
                      case rel => exact ⟨k + 1, b', r', by omega, by omega, by go_num, Lib.hid (HDn.out _)⟩
                  · have k2b : (x.kind == 2) = false := by simpa using k2
                    by_cases k3 : x.kind = 3
                    · as_aux_lemma =>
                      rw [k3] at a0
                      have c0 := HD4.out.agk hkk
                      have HFR := Lib.hid (HD4.out.free hkk)
                      clear k0 k1 k2 k0b k1b k2b
                      go_wp2_with fail
                      refine HFR.out.mono ?_
                      rintro e w5 ⟨rfl, hd5, ho5⟩
                      have HD5 := Lib.hid hd5
                      have d1 := hd5.ahk hkk
                      have HRC := Lib.hid (hd5.rcut hkk (HD4.out.sys.bod kk hkk).ok HD4.out.sys.le 0)
                      clear hd5 ho5 HFR c0
                      go_wp2_with fail
                      refine HRC.out.mono ?_
                      rintro e w6 ⟨rfl, r', hd6, _, _⟩
                      have HD := Lib.hid hd6
                      generalize updF b kk (cut (b kk) 0) = b' at *
                      clear hd6 HRC HD5 d1 HD4 HA4 HS4 a0 a1
                      have HDn := Lib.hid (fun nq => HD.out.below (below_drewN w6 nq))
                      have q0 : w6.cell? ⟨Q, 0, none⟩ = some (.int .i64 (R : Int)) := HD.out.sto.c0
                      have q1 : w6.cell? ⟨Q, 1, none⟩ = some (.int .i64 ((tot 4 b' : Nat) : Int)) := HD.out.sto.c1
                      have c0 := HD.out.agk hkk
                      have c1 := HD.out.ahk hkk
                      obtain ⟨A0, cc0, s0, _⟩ := HD.out.rsize hkk
                      have C1 := fun nq => (sys_used (HDn.out nq).sys).mono (fun _ _ ⟨he, hw⟩ => And.intro he hw.symm)
                      have C2 := fun nq => (sys_room (HDn.out nq).sys).mono (fun _ _ ⟨he, hw⟩ => And.intro he hw.symm)
                      have C3 := fun nq => (sys_size (HDn.out nq).sys hkk).mono (fun _ _ ⟨he, hw⟩ => And.intro he hw.symm)
                      have C4 := fun nq => (sys_chunks (HDn.out nq).sys hkk).mono (fun _ _ ⟨he, hw⟩ => And.intro he hw.symm)
                      have C5 := fun nq => (rchunks_any ((HDn.out nq).rb kk hkk)).mono (fun _ _ ⟨he, hw⟩ => And.intro he hw.symm)
                      generalize tot 4 b' = tt at q1 C1
                      generalize (b' kk).size = zz at s0 C3
                      generalize (b' kk).n = nn at C4 C5
                      as_aux_lemma =>
                      go_upto_region 50 with fail
                      go_quiet (first
                        | (go_at_call 22; exact Calls.quiet_of_same (C1 _))
                        | (go_at_call 23; exact Calls.quiet_of_same (C2 _))
                        | (go_at_call 24; exact Calls.quiet_of_same (C3 _))
                        | (go_at_call 25; exact Calls.quiet_of_same (C4 _))
                        | (go_at_call 26; exact Calls.quiet_of_same (C5 _)))
                      clear C1 C2 C3 C4 C5 q0 q1 c0 c1 s0
                      go_wp2_with fail
                      go_roundg (60 - (k + 1))
                      case measure => omega
                      case rel => exact ⟨k + 1, b', r', by omega, by omega, by go_num, Lib.hid (HDn.out _)⟩
                    · as_aux_lemma =>
                      have k3b : (x.kind == 3) = false := by simpa using k3
                      obtain ⟨kd, hkd⟩ : ∃ kd, kd = x.kind := ⟨_, rfl⟩
                      rw [← hkd] at a0 k0b k1b k2b k3b
                      have HD := HD4
                      obtain ⟨r', hr'⟩ : ∃ r', r' = r := ⟨_, rfl⟩
                      obtain ⟨b', hb'⟩ : ∃ b', b' = b := ⟨_, rfl⟩
                      rw [← hr', ← hb'] at HD
                      clear k0 k1 k2 k3 hkd HA4 HS4 HD4 hr' hb'
                      have HDn := Lib.hid (fun nq => HD.out.below (below_drewN w4 nq))
                      have q0 : w4.cell? ⟨Q, 0, none⟩ = some (.int .i64 (R : Int)) := HD.out.sto.c0
                      have q1 : w4.cell? ⟨Q, 1, none⟩ = some (.int .i64 ((tot 4 b' : Nat) : Int)) := HD.out.sto.c1
                      have c0 := HD.out.agk hkk
                      have c1 := HD.out.ahk hkk
                      obtain ⟨A0, cc0, s0, _⟩ := HD.out.rsize hkk
                      have C1 := fun nq => (sys_used (HDn.out nq).sys).mono (fun _ _ ⟨he, hw⟩ => And.intro he hw.symm)
                      have C2 := fun nq => (sys_room (HDn.out nq).sys).mono (fun _ _ ⟨he, hw⟩ => And.intro he hw.symm)
                      have C3 := fun nq => (sys_size (HDn.out nq).sys hkk).mono (fun _ _ ⟨he, hw⟩ => And.intro he hw.symm)
                      have C4 := fun nq => (sys_chunks (HDn.out nq).sys hkk).mono (fun _ _ ⟨he, hw⟩ => And.intro he hw.symm)
                      have C5 := fun nq => (rchunks_any ((HDn.out nq).rb kk hkk)).mono (fun _ _ ⟨he, hw⟩ => And.intro he hw.symm)
                      generalize tot 4 b' = tt at q1 C1
                      generalize (b' kk).size = zz at s0 C3
                      generalize (b' kk).n = nn at C4 C5
                      as_aux_lemma =>
                      go_upto_region 50 with fail
                      go_quiet (first
                        | (go_at_call 22; exact Calls.quiet_of_same (C1 _))
                        | (go_at_call 23; exact Calls.quiet_of_same (C2 _))
                        | (go_at_call 24; exact Calls.quiet_of_same (C3 _))
                        | (go_at_call 25; exact Calls.quiet_of_same (C4 _))
                        | (go_at_call 26; exact Calls.quiet_of_same (C5 _)))
                      clear C1 C2 C3 C4 C5 q0 q1 c0 c1 s0
                      go_wp2_with fail
                      go_roundg (60 - (k + 1))
                      case measure => omega
                      case rel => exact ⟨k + 1, b', r', by omega, by omega, by go_num, Lib.hid (HDn.out _)⟩
            · rw [hlb] at HLW
              refine HLW.out.mono ?_
              rintro e w4 ⟨rfl, hb4⟩
              have HB4 := Lib.hid (HDN.out.below hb4).bel
              clear hb4 HDN HAN HSN
              go_wp2_with fail
              go_ret
              exact ⟨rfl, HB4.out⟩
          · as_aux_lemma =>
            have hsplit : (k < n ∧ k = 60) ∨ ¬ k < n := by omega
            clear hgo
            rcases hsplit with ⟨hkn, rfl⟩ | hkn
            all_goals
              go_wp2_with fail
              go_loopg [255] 4 (fun g2 s wr => ∃ j : Nat, g2 + j = 4 ∧ s = .int .i64 (j : Int) ∧ Hid (Duo w wr g h S Q R 4 B M r b b))
              case atStart => exact ⟨0, by omega, rfl, HT⟩
              case round =>
                clear HT
                obtain ⟨j, hgj, rfl, HJ⟩ := hrel
                by_cases hj : j < 4
                · have hji : (j : Int) < 4 := by omega
                  have c0 := HJ.out.agk hj
                  have hra := readR_all (HJ.out.sys.bod j hj).ok
                  have HRD := Lib.hid (HJ.out.read hj 0 65536)
                  unfold ReadE at HRD
                  rw [hra] at HRD
                  go_wp2_with fail
                  refine HRD.out.mono ?_
                  rintro e wx ⟨A1, c1, rfl, hr, hb⟩
                  have hd2 := (HJ.out.below hb).drew
                  have HJ2 := Lib.hid hd2
                  obtain ⟨A0, cc0, s0, ho0⟩ := hd2.rsize hj
                  have hf0 : (fun i => (b j).dat ((0 : Int).toNat + i)) = (b j).dat := funext fun i => by rw [show (0 : Int).toNat + i = i from by simp]
                  have cv1 : (convert 33 9 (.slice A1 (b j).size c1)).run Try.prog wx.drew = .ok (.string (strF (b j).size (b j).dat)) wx.drew := by
                    have h1 := Row.conv (w := wx.drew) hr
                    rw [hf0] at h1
                    exact h1
                  have cv2 : (convert 33 9 (.slice A0 (b j).size cc0)).run Try.prog wx.drew = .ok (.string (strF (b j).size (b j).dat)) wx.drew := own_conv ho0
                  have hrd := row_only hr (Only.of_below (F := fun _ => False) (Below.refl wx.heap.size wx).drew)
                  have CV1 := Lib.hid (fun W (hW : Below wx.drew.heap.size wx.drew W) => (by
                    have h1 := Row.conv (row_only hrd (Only.of_below (F := fun _ => False) hW))
                    rw [hf0] at h1
                    exact h1 : (convert 33 9 (.slice A1 (b j).size c1)).run Try.prog W = .ok (.string (strF (b j).size (b j).dat)) W))
                  have CV2 := Lib.hid (fun W (hW : Below wx.drew.heap.size wx.drew W) => own_conv (own_only ho0 (Only.of_below (F := fun _ => False) hW) (fun _ _ h => h)))
                  generalize strF (b j).size (b j).dat = str at cv1 cv2 CV1 CV2
                  have c2 := hd2.agk hj
                  have d2 := hd2.ahk hj
                  have C2 := sys_holes hd2.sys hj
                  have C3 := Lib.hid (fun W (hW : Below wx.drew.heap.size wx.drew W) => rholes_any ((HJ2.out.below hW).rb j hj) (HJ2.out.sys.bod j hj).ok.size)
                  have hLL : (holesL (((b j).size + 15) / 16) (b j).th).length ≤ 4096 := by
                    have h1 := chunks_holes (hd2.sys.bod j hj).ok
                    have h2 := (hd2.sys.bod j hj).ok.size
                    omega
                  have HLL2 := Lib.hid hLL
                  have hgl := hd2.gl
                  have hhl := hd2.hl
                  have hcl : (r j).C < wx.drew.heap.size := World.block_lt_of_cell? _ _ s0
                  generalize holesL (((b j).size + 15) / 16) (b j).th = LL at C2 C3 HLL2
                  generalize (b j).size = zz at s0 cv1 cv2 CV1 CV2
                  clear hr hb hd2 HRD ho0 hf0 hra hLL hrd
                  go_upto_region 56 with fail
                  go_region_held3 (fun w' => w'.cell? ⟨g, j, none⟩ = some (Pq (B j)) ∧ w'.cell? ⟨h, j, none⟩ = some (Pq (r j).C) ∧ w'.cell? ⟨(r j).C, 0, none⟩ = some (.slice A0 zz cc0) ∧ (convert 33 9 (.slice A1 zz c1)).run Try.prog w' = .ok (.string str) w' ∧ (convert 33 9 (.slice A0 zz cc0)).run Try.prog w' = .ok (.string str) w')
                    (first | exact ⟨c2, d2, s0, cv1, cv2⟩ | exact ⟨c3, d3, s3, v3, u3⟩ | exact ⟨c4, d4, s4, v4, u4⟩ | exact ⟨c5, d5, s5, v5, u5⟩ | assumption | go_keep)
                    (first
                    | (go_at_call 28; ((with_reducible refine C2.mono ?_); rintro e w2 ⟨v, rfl, hown, hb⟩; obtain ⟨A2, c2', rfl⟩ := own_slice hown; have c3 := (hb.cell (p := ⟨g, j, none⟩) hgl).trans c2; have d3 := (hb.cell (p := ⟨h, j, none⟩) hhl).trans d2; have s3 := (hb.cell (p := ⟨(r j).C, 0, none⟩) hcl).trans s0; have v3 := CV1.out _ hb; have u3 := CV2.out _ hb; have C4 := C3.out w2 hb))
                    | (go_at_call 29; ((with_reducible refine C4.mono ?_); rintro e w3 ⟨v3, rfl, hown3, hb3⟩; obtain ⟨A3, c3', rfl⟩ := own_slice hown3; have hb23 := below_steps hb hb3; have c4 := (hb23.cell (p := ⟨g, j, none⟩) hgl).trans c2; have d4 := (hb23.cell (p := ⟨h, j, none⟩) hhl).trans d2; have s4 := (hb23.cell (p := ⟨(r j).C, 0, none⟩) hcl).trans s0; have v4 := CV1.out _ hb23; have u4 := CV2.out _ hb23; have hown4 := own_only hown (Only.of_below (F := fun _ => False) hb3) (fun _ _ h => h); have C5 := ints_same w3 LL.length c2' c3' _ _ A2 A3 LL rfl HLL2.out hown4 hown3))
                    | (go_at_call 27; ((with_reducible refine C5.mono ?_); rintro e w4 ⟨rfl, hb4⟩; have hb24 := below_steps hb23 hb4; have c5 := (hb24.cell (p := ⟨g, j, none⟩) hgl).trans c2; have d5 := (hb24.cell (p := ⟨h, j, none⟩) hhl).trans d2; have s5 := (hb24.cell (p := ⟨(r j).C, 0, none⟩) hcl).trans s0; have v5 := CV1.out _ hb24; have u5 := CV2.out _ hb24)))
                  all_goals
                    have HJ4 := Lib.hid (HJ2.out.below hb24)
                    go_wp2_with fail
                    go_roundg (gk - 1)
                    case measure => omega
                    case rel => exact ⟨j + 1, by omega, by go_num, HJ4⟩
                · have hji : ¬ ((j : Int) < 4) := by omega
                  go_wp2_with fail
                  go_ret
                  exact ⟨rfl, HJ.out.bel⟩
  · have hbad : room < 0 ∨ 65536 < room := by omega
    have HN := Lib.hid (new_no room w1 hbad)
    have HN2 := Lib.hid (rnew_no room w1 hbad)
    clear hr hbad
    go_wp2_with fail
    refine HN.out.mono ?_
    rintro e w2 ⟨rfl, rfl⟩
    go_wp2_with fail
    refine HN2.out.mono ?_
    rintro e w2 ⟨rfl, rfl⟩
    go_wp2_with fail
    go_ret
    exact ⟨rfl, HB1.out⟩

set_option maxRecDepth 100000 in
theorem lifted (os : Os) (started : os.Started) (H : Type) (enc : TypeId × Value → H) :
    ReturnsInHanded {} Try.checked os 3 .any (Rows.blockDoesSpec.pre6 enc Try.prog Try.f3 Rows.blockDoesRow.domain false) (Rows.blockDoesSpec.post enc Try.prog Try.f3 false true false false) := by
  refine returnsInHanded_of_change (C := Try.checked) own started (by kernel_rfl) Try.func3
    (ChangeSpec.witness6 (enc := enc) (C := Try.checked) false ⟨#[], #[.int .i64 0, .slice none 0 0], []⟩ 8 (by kernel_rfl) (by kernel_rfl) (by kernel_rfl) (by kernel_rfl)) ?_
  intro W base args ds gs before hval0 hW hcnd _
  have hval : ∀ (j : Nat) t v, Try.f3.params[j]? = some t → args[j]? = some v → Value.okWide Try.prog W .any base t v := hval0
  have hW' := hW
  obtain ⟨p, q, hA0, hV, rfl, hfz, hnd⟩ := hW
  have hA : DataW.TrodAll enc Try.prog W 0 (fun _ => true) true Try.f3.params.toList args.toList ds p := hA0
  rw [Try.params3] at hA hval
  obtain ⟨v0, vs0, d0, ds0, p0, q0, hargs, rfl, rfl, h0, r0⟩ := trodAll_cons hA
  obtain ⟨v1, vs1, d1, ds1, p1, q1, rfl, rfl, rfl, h1, r1⟩ := trodAll_cons r0
  obtain ⟨rfl, rfl, rfl⟩ := trodAll_nil r1
  obtain rfl : args = #[v0, v1] := by cases args; simp_all
  obtain ⟨rfl, rfl⟩ := trodVars_none hV
  have hlt := fun x hx => hW'.lt x hx
  obtain ⟨a0, rfl, rfl, rfl, w0⟩ := open_int Try.underlying3 (hval 0 3 v0 rfl rfl) h0
  have t1 := h1
  obtain ⟨A1, n1, c1, x1, rfl, e1, s1⟩ := open_acts (hval 1 22 v1 rfl rfl) h1
  clear hA0 hval0
  refine (walk a0 A1 n1 c1 x1 W e1 s1).mono fun e W' ⟨he, hg⟩ => ?_
  subst he
  exact ⟨_, rfl, law_post (pv := []) hW' (fun _ _ _ => (trodAll_cons_mk (shut_bool Try.underlying4 _) trodAll_mk0)) (fun sp hsp => (trodAll_cons_mk (shut_int Try.underlying3 w0) (trodAll_cons_mk (arg_stays (by decide) t1 hg (by simp +contextual) hlt hsp laid) trodAll_mk0))) (fun _ _ => rfl) (by simp)
    hg (ok_one (by kernel_rfl) rfl (okWide_bool_mk Try.underlying4 _))⟩

theorem over : Rows.blockDoesRow.holds Try.pinned (OpenSpec.ofChange Rows.blockDoesSpec) :=
  OpenClaim.holds_of_wide 3 Try.f3 rfl rfl rfl rfl rfl rfl rfl ⟨rfl, rfl, rfl, rfl, rfl⟩ rfl rfl rfl rfl rfl (by kernel_rfl) Try.func3 (by kernel_rfl)
    (of_decide_eq_true (by kernel_rfl)) (by unfold Func.isWrapper; first | (rw [if_pos (by decide +kernel)]; kernel_rfl) | (rw [if_neg (by decide +kernel)]; exact ⟨rfl, rfl⟩))
    (fun os started H enc _ => lifted os started H enc)

/-- The statement. -/
theorem proved : Rows.BlockDoesSaid :=
  over
end Go.Proofs.Ytpnnonphagddgaa.blockDoes
