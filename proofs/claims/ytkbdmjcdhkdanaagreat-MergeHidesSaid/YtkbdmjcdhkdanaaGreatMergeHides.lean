/- For every list of acts and every name the law MergeHides returns true, and what is handed in reads as it did; there are no conditions. -/
import Derived.Test.YtkbdmjcdhkdanaaGreatRows
import Derived.Test.YtkbdmjcdhkdanaaGreatZ37
import Derived.Deep.RegionWith
import Derived.Deep.LoopGhost
import Derived.StillTailTactics
import Derived.Deep.QuietTactic
import Derived.BigQuiet
import Derived.ProofKit
import Derived.OpenShut
import Derived.ShutString
import Derived.SizedLaws
namespace Go.Proofs.YtkbdmjcdhkdanaaGreat.mergeHides
open Go.ChangeShapes Go.WideShapes Go.ChangeAt Go.RowKit
open Go.ChangeMaps (open_string shut_string)
open Go.Proofs.YtkbdmjcdhkdanaaGreat.mg
set_option linter.unusedVariables false
set_option linter.unusedSimpArgs false

theorem own : ownKnob Tryz.prog.godebug = none := by kernel_rfl
theorem laid : laidOutB Tryz.prog = true := by kernel_rfl

open Go.Proofs.YtkbdmjcdhkdanaaGreat.br (BS Ino Inv fresh)
open Go.Proofs.YtkbdmjcdhkdanaaGreat.cb (BrX RetW RetI No Act7 Acts Bt BuildE build_any)
open Go.Proofs.YtkbdmjcdhkdanaaGreat.bl (Pq Only)
set_option maxRecDepth 100000 in
set_option maxHeartbeats 8000000 in
theorem walk (A : Option Addr) (n c : Nat) (F : Nat → Act7) (s : ByteArray) (w : World) (k1 : n ≤ c ∧ c ≤ maxLen) (hF : Acts w w.heap.size A n F) (ws : s.size ≤ 140737488351232) :
    Calls Tryz.prog 6 #[.slice A n c, .string s] w (AwakeE w) := by
  have hnm : n ≤ maxLen := Nat.le_trans k1.1 k1.2
  have HB0 := Lib.hid (Below.refl w.heap.size w)
  have HBD := Lib.hid (fun w1 (hb : Below w.heap.size w w1) => build_any A n c F w w1 hnm hF hb)
  clear k1 hF hnm
  go_enter Tryz.func6, Tryz.ntmps6
  go_wp2_with fail
  refine (awake_any _).mono ?_
  rintro _ w1 ⟨rfl, hb1⟩
  have HB1 := Lib.hid (HBD.out _ hb1)
  clear hb1 HBD
  go_wp2_with fail
  refine HB1.out.mono ?_
  rintro _ w2 h2
  clear HB1
  rcases h2 with ⟨v, rfl, h2⟩ | ⟨G, p, U, L, rfl, h2⟩
  · have HE := Lib.hid (bel_step HB0.out h2)
    clear h2
    go_wp2_with fail
    go_ret
    exact ⟨rfl, HE.out⟩
  have H2 := Lib.hid h2
  clear h2
  obtain ⟨-, c0, c1, -, -⟩ := H2.out
  go_wp2_with fail
  go_region_held3 (fun w' => w'.cell? ⟨G, 0, none⟩ = some (Pq p.P1) ∧ w'.cell? ⟨G, 1, none⟩ = some (Pq p.P2))
    (first | exact ⟨c0, c1⟩ | exact S8 | assumption | go_keep)
    (first | (go_at_call 13; ((with_reducible refine (Bt.new (Bt.below H2.out (Below.refl w2.heap.size w2).drew) 1 1).mono ?_); rintro _ wv ⟨V, rfl, hv3, hb3⟩; have HS3 := Lib.hid ((Below.refl w2.heap.size w2).drew.trans hb3); have HV := Lib.hid hv3; have HT := Lib.hid (Bt.below H2.out HS3.out); have S8 := And.intro HT.out.c0 HT.out.c1)))
  all_goals
    clear c0 c1 S8 hv3 hb3 HS3 H2
    have HBv := Lib.hid (show Below w.heap.size w wv from bel_step HB0.out HT.out.q.bel)
    have HI := Lib.hid (And.intro (Bt.good1 HT.out) (Bt.good2 HT.out))
    have HTX := Lib.hid (fun W (hb : Below wv.heap.size wv W) => Bt.below HT.out hb)
    have HVX := Lib.hid (fun W (hb : Below wv.heap.size wv W) => HV.out.below hb)
    have HR0 := Lib.hid (Below.refl wv.heap.size wv)
    have HRO := Lib.hid (root_any (HVX.out wv HR0.out))
    obtain ⟨u, hu⟩ : ∃ u, (U.get 1 s).1 = u := ⟨_, rfl⟩
    obtain ⟨e, he⟩ : ∃ e, (U.get 1 s).2 = e := ⟨_, rfl⟩
    obtain ⟨l, hl⟩ : ∃ l, (L.get 1 s).1 = l := ⟨_, rfl⟩
    obtain ⟨f, hf⟩ : ∃ f, (L.get 1 s).2 = f := ⟨_, rfl⟩
    obtain ⟨rt, hrt⟩ : ∃ rt, rootV U L 1 1 = rt := ⟨_, rfl⟩
    have HA := Lib.hid (hides_white HI.out.1 HI.out.2 s)
    have HB := Lib.hid (hides_file HI.out.1 HI.out.2 s)
    have HC := Lib.hid (hides_dir HI.out.1 HI.out.2 s)
    have HD := Lib.hid (hides_none HI.out.1 HI.out.2 s)
    have HLF := Lib.hid (And.intro (get_zero HI.out.2 1 s) (get_kind HI.out.2 1 s))
    have HGU := Lib.hid (show ∀ W, Below wv.heap.size wv W → Calls Tryz.prog 31 #[Pq p.P1, .int .i64 1, .string s] W (fun e' w' => e' = .returned (.tuple #[.int .i64 u, .int .i64 e]) ∧ Below W.heap.size W w') from fun W hb => by have := Bt.getU (HTX.out W hb) 1 s; rw [hu, he] at this; exact this)
    have HGL := Lib.hid (show ∀ W, Below wv.heap.size wv W → Calls Tryz.prog 31 #[Pq p.P2, .int .i64 1, .string s] W (fun e' w' => e' = .returned (.tuple #[.int .i64 l, .int .i64 f]) ∧ Below W.heap.size W w') from fun W hb => by have := Bt.getL (HTX.out W hb) 1 s; rw [hl, hf] at this; exact this)
    have HRT := Lib.hid (show ∀ W, Below wv.heap.size wv W → Calls Tryz.prog 14 #[Pq V] W (fun e' w' => e' = .returned (Nv rt) ∧ Below W.heap.size W w') from fun W hb => by have := root_any (HVX.out W hb); rw [hrt] at this; exact this)
    have HG := Lib.hid (fun W (hb : Below wv.heap.size wv W) => get_any (HVX.out W hb) rt s)
    have HM1 := Lib.hid (fun W (hb : Below wv.heap.size wv W) => Bt.marksU (HTX.out W hb) 1)
    have HKU := Lib.hid (fun W (hb : Below wv.heap.size wv W) => Bt.kindU (HTX.out W hb) u)
    have HKL := Lib.hid (fun W (hb : Below wv.heap.size wv W) => Bt.kindL (HTX.out W hb) l)
    have HMU := Lib.hid (fun W (hb : Below wv.heap.size wv W) => Bt.marksU (HTX.out W hb) u)
    have HB1 := Lib.hid (opq_bit U 1)
    have HBU := Lib.hid (opq_bit U u)
    unfold RetW at HG
    rw [hu, he, hrt] at HA HB HC
    rw [he, hrt] at HD
    rw [hl] at HC
    rw [hl, hf] at HD HLF
    clear hu he hl hf hrt HRO
    generalize getV U L rt s = r at *
    generalize U.kindOf u = ku at *
    generalize L.kindOf l = kl at *
    generalize opq U 1 = o1 at *
    generalize opq U u = ou at *
    generalize U.marksOf 1 = m1 at *
    generalize U.marksOf u = mu at *
    obtain ⟨⟨x1, x2⟩, g⟩ := r
    dsimp only at HG
    have hgd := guard24
    obtain ⟨-, c0, c1, -, -⟩ := HTX.out _ HR0.out
    go_wp2_with fail
    refine (HGU.out _ HR0.out).mono ?_
    rintro _ w11 ⟨rfl, hb11⟩
    have HR11 := Lib.hid (bel_step HR0.out hb11)
    clear hb11
    clear c0 c1 HGU
    obtain ⟨-, c0, c1, -, -⟩ := HTX.out _ HR11.out
    go_wp2_with fail
    refine (HGL.out _ HR11.out).mono ?_
    rintro _ w12 ⟨rfl, hb12⟩
    have HR12 := Lib.hid (bel_step HR11.out hb12)
    clear hb12
    clear c0 c1 HGL
    go_wp2_with fail
    refine (HRT.out _ HR12.out).mono ?_
    rintro _ w13 ⟨rfl, hb13⟩
    have HR13 := Lib.hid (bel_step HR12.out hb13)
    clear hb13
    go_wp2_with fail
    refine (HG.out _ HR13.out).mono ?_
    rintro _ w14 ⟨rfl, hb14⟩
    have HR14 := Lib.hid (bel_step HR13.out hb14)
    clear hb14
    clear HRT HG
    obtain ⟨w15, hw15⟩ : ∃ w15, w14.alloc (.cells #[.int .i64 x1, .int .i64 x2] 24) = w15 := ⟨_, rfl⟩
    have hb15 : Below w14.heap.size w14 w15 := by rw [← hw15]; exact bel_alloc _ _
    have HR15 := Lib.hid (bel_step HR14.out hb15)
    have HX15 := Lib.hid (show Nb w15 w14.heap.size (x1, x2) by rw [← hw15]; exact Nb.new w14 x1 x2)
    obtain ⟨gHX, hgHX⟩ : ∃ g, w14.heap.size = g := ⟨_, rfl⟩
    rw [hgHX] at HX15
    clear hb15
    obtain ⟨-, c0, c1, -, -⟩ := HTX.out _ HR15.out
    go_wp2_with fail
    refine (HM1.out _ HR15.out).mono ?_
    rintro _ w16 ⟨rfl, hb16⟩
    have HR16 := Lib.hid (bel_step HR15.out hb16)
    have HX16 := Lib.hid (HX15.out.below hb16)
    clear hb16
    clear c0 c1 HM1
    obtain ⟨y0, y1⟩ := HX16.out
    dsimp only at y0 y1
    obtain ⟨-, c0, c1, -, -⟩ := HTX.out _ HR16.out
    by_cases he : e = 0
    · subst he
      by_cases hk4 : ku = 4
      · subst hk4
        have hr := HA.out rfl rfl
        simp only [Prod.mk.injEq] at hr
        obtain ⟨-, rfl⟩ := hr
        clear HA HB HC HD
        go_wp2_with fail
        refine (HKU.out _ HR16.out).mono ?_
        rintro _ w17 ⟨rfl, hb17⟩
        have HR17 := Lib.hid (bel_step HR16.out hb17)
        have HX17 := Lib.hid (HX16.out.below hb17)
        clear hb17
        have HFE := Lib.hid (bel_step HBv.out HR17.out)
        go_wp2_with fail
        go_ret
        exact ⟨rfl, HFE.out⟩
      have q4 : (ku == 4) = false := by simpa using hk4
      by_cases hk2 : ku = 2
      · subst hk2
        have hr := HC.out rfl rfl
        simp only [Prod.mk.injEq] at hr
        obtain ⟨⟨rfl, hx2⟩, rfl⟩ := hr
        have HX2 := Lib.hid hx2
        clear HA HB HC HD q4 hx2
        go_wp2_with fail
        refine (HKU.out _ HR16.out).mono ?_
        rintro _ w17 ⟨rfl, hb17⟩
        have HR17 := Lib.hid (bel_step HR16.out hb17)
        have HX17 := Lib.hid (HX16.out.below hb17)
        clear hb17
        clear c0 c1 y0 y1
        obtain ⟨y0, y1⟩ := HX17.out
        dsimp only at y0 y1
        obtain ⟨-, c0, c1, -, -⟩ := HTX.out _ HR17.out
        go_wp2_with fail
        refine (HKU.out _ HR17.out).mono ?_
        rintro _ w18 ⟨rfl, hb18⟩
        have HR18 := Lib.hid (bel_step HR17.out hb18)
        have HX18 := Lib.hid (HX17.out.below hb18)
        clear hb18
        clear c0 c1 y0 y1
        obtain ⟨y0, y1⟩ := HX18.out
        dsimp only at y0 y1
        obtain ⟨-, c0, c1, -, -⟩ := HTX.out _ HR18.out
        cases o1
        case true =>
          have hm1 : (bits BinOp.and IntKind.i64 m1 1 != 0) = true := HB1.out
          have hx2 := HX2.out
          rw [if_neg (fun e => by cases e.1)] at hx2
          clear HX2
          subst hx2
          have hq : ((0 : Int) == l) = (l == 0) := by rw [Bool.eq_iff_iff]; simp only [beq_iff_eq]; exact eq_comm
          clear HB1 HBU HLF
          cases hl0 : (l == 0)
          case false =>
            have HFE := Lib.hid (bel_step HBv.out HR18.out)
            go_wp2_with fail
            go_ret
            exact ⟨rfl, HFE.out⟩
          case true =>
            have HFE := Lib.hid (bel_step HBv.out HR18.out)
            go_wp2_with fail
            go_ret
            exact ⟨rfl, HFE.out⟩
        case false =>
          have hm1 : (bits BinOp.and IntKind.i64 m1 1 != 0) = false := HB1.out
          clear HB1
          go_wp2_with fail
          refine (HMU.out _ HR18.out).mono ?_
          rintro _ w19 ⟨rfl, hb19⟩
          have HR19 := Lib.hid (bel_step HR18.out hb19)
          have HX19 := Lib.hid (HX18.out.below hb19)
          clear hb19
          clear c0 c1 y0 y1
          obtain ⟨y0, y1⟩ := HX19.out
          dsimp only at y0 y1
          obtain ⟨-, c0, c1, -, -⟩ := HTX.out _ HR19.out
          cases ou
          case true =>
            have hmu : (bits BinOp.and IntKind.i64 mu 1 == 0) = false := by have := HBU.out; simpa [bne] using this
            have hx2 := HX2.out
            rw [if_neg (fun e => by cases e.2.1)] at hx2
            clear HX2
            subst hx2
            have hq : ((0 : Int) == l) = (l == 0) := by rw [Bool.eq_iff_iff]; simp only [beq_iff_eq]; exact eq_comm
            clear HBU HLF
            cases hl0 : (l == 0)
            case false =>
              have HFE := Lib.hid (bel_step HBv.out HR19.out)
              go_wp2_with fail
              go_ret
              exact ⟨rfl, HFE.out⟩
            case true =>
              have HFE := Lib.hid (bel_step HBv.out HR19.out)
              go_wp2_with fail
              go_ret
              exact ⟨rfl, HFE.out⟩
          case false =>
            have hmu : (bits BinOp.and IntKind.i64 mu 1 == 0) = true := by have := HBU.out; simpa [bne] using this
            clear HBU
            by_cases hf0 : f = 0
            · subst hf0
              go_wp2_with fail
              refine (HKL.out _ HR19.out).mono ?_
              rintro _ w20 ⟨rfl, hb20⟩
              have HR20 := Lib.hid (bel_step HR19.out hb20)
              have HX20 := Lib.hid (HX19.out.below hb20)
              clear hb20
              clear c0 c1 y0 y1
              obtain ⟨y0, y1⟩ := HX20.out
              dsimp only at y0 y1
              by_cases hkl : kl = 2
              · subst hkl
                have hx2 := HX2.out
                rw [if_pos ⟨by first | rfl | trivial, by first | rfl | trivial, by first | rfl | trivial⟩] at hx2
                clear HX2
                subst hx2
                clear HLF
                have HFE := Lib.hid (bel_step HBv.out HR20.out)
                go_wp2_with fail
                go_ret
                exact ⟨rfl, HFE.out⟩
              have hx2 := HX2.out
              rw [if_neg (fun e => hkl e.2.2)] at hx2
              clear HX2
              subst hx2
              have qk : (kl == 2) = false := by simpa using hkl
              have hl0 : (l == 0) = false := by simp; exact fun e => HLF.out.1.1 e rfl
              have hq : ((0 : Int) == l) = false := by rw [← hl0, Bool.eq_iff_iff]; simp only [beq_iff_eq]; exact eq_comm
              clear HLF hkl
              have HFE := Lib.hid (bel_step HBv.out HR20.out)
              go_wp2_with fail
              go_ret
              exact ⟨rfl, HFE.out⟩
            have hl0 : l = 0 := HLF.out.1.2 hf0
            have hx0 : x2 = 0 := by rw [HX2.out]; split; exact hl0; rfl
            clear HX2
            have qf : (f == 0) = false := by simpa using hf0
            subst hl0
            subst hx0
            clear HLF hf0
            have HFE := Lib.hid (bel_step HBv.out HR19.out)
            go_wp2_with fail
            go_ret
            exact ⟨rfl, HFE.out⟩
      have q2 : (ku == 2) = false := by simpa using hk2
      have hr := HB.out rfl hk4 hk2
      simp only [Prod.mk.injEq] at hr
      obtain ⟨⟨rfl, rfl⟩, rfl⟩ := hr
      have hq : ∀ W, (binOp .eql 24 (.agg #[.int .i64 x1, .int .i64 0]) (.agg #[.int .i64 x1, .int .i64 0])).run Tryz.prog W = .ok (.bool true) W := fun W => by rw [← decide_eq_true (show ((x1, 0) : Nd) = (x1, 0) from rfl)]; exact run_eql24 (x1, 0) (x1, 0) W
      clear HA HB HC HD hk4 hk2
      go_wp2_with fail
      refine (HKU.out _ HR16.out).mono ?_
      rintro _ w17 ⟨rfl, hb17⟩
      have HR17 := Lib.hid (bel_step HR16.out hb17)
      have HX17 := Lib.hid (HX16.out.below hb17)
      clear hb17
      clear c0 c1 y0 y1
      obtain ⟨y0, y1⟩ := HX17.out
      dsimp only at y0 y1
      obtain ⟨-, c0, c1, -, -⟩ := HTX.out _ HR17.out
      go_wp2_with fail
      refine (HKU.out _ HR17.out).mono ?_
      rintro _ w18 ⟨rfl, hb18⟩
      have HR18 := Lib.hid (bel_step HR17.out hb18)
      have HX18 := Lib.hid (HX17.out.below hb18)
      clear hb18
      clear c0 c1 y0 y1
      obtain ⟨y0, y1⟩ := HX18.out
      dsimp only at y0 y1
      have HFE := Lib.hid (bel_step HBv.out HR18.out)
      go_wp2_with fail
      go_ret
      exact ⟨rfl, HFE.out⟩
    have q0 : (e == 0) = false := by simpa using he
    have hr := HD.out he
    clear HA HB HC HD he
    cases o1
    case true =>
      have hm1 : (bits BinOp.and IntKind.i64 m1 1 != 0) = true := HB1.out
      rw [if_pos (.inl rfl)] at hr
      simp only [Prod.mk.injEq] at hr
      obtain ⟨-, rfl⟩ := hr
      clear HB1
      have HFE := Lib.hid (bel_step HBv.out HR16.out)
      go_wp2_with fail
      go_ret
      exact ⟨rfl, HFE.out⟩
    case false =>
      have hm1 : (bits BinOp.and IntKind.i64 m1 1 != 0) = false := HB1.out
      clear HB1
      by_cases hf0 : f = 0
      · subst hf0
        go_wp2_with fail
        refine (HKL.out _ HR16.out).mono ?_
        rintro _ w17 ⟨rfl, hb17⟩
        have HR17 := Lib.hid (bel_step HR16.out hb17)
        have HX17 := Lib.hid (HX16.out.below hb17)
        clear hb17
        clear y0 y1
        obtain ⟨y0, y1⟩ := HX17.out
        dsimp only at y0 y1
        by_cases hk4 : kl = 4
        · subst hk4
          rw [if_pos (.inr (.inr rfl))] at hr
          simp only [Prod.mk.injEq] at hr
          obtain ⟨-, rfl⟩ := hr
          have HFE := Lib.hid (bel_step HBv.out HR17.out)
          go_wp2_with fail
          go_ret
          exact ⟨rfl, HFE.out⟩
        have qk : (kl == 4) = false := by simpa using hk4
        rw [if_neg (fun e => by rcases e with e | e | e; cases e; exact e rfl; exact hk4 e)] at hr
        simp only [Prod.mk.injEq] at hr
        obtain ⟨⟨rfl, rfl⟩, rfl⟩ := hr
        have hq : ∀ W, (binOp .eql 24 (.agg #[.int .i64 0, .int .i64 x2]) (.agg #[.int .i64 0, .int .i64 x2])).run Tryz.prog W = .ok (.bool true) W := fun W => by rw [← decide_eq_true (show ((0, x2) : Nd) = (0, x2) from rfl)]; exact run_eql24 (0, x2) (0, x2) W
        clear hk4
        have HFE := Lib.hid (bel_step HBv.out HR17.out)
        go_wp2_with fail
        go_ret
        exact ⟨rfl, HFE.out⟩
      have qf : (f != 0) = true := by simpa using hf0
      rw [if_pos (.inr (.inl hf0))] at hr
      simp only [Prod.mk.injEq] at hr
      obtain ⟨-, rfl⟩ := hr
      clear hf0
      have HFE := Lib.hid (bel_step HBv.out HR16.out)
      go_wp2_with fail
      go_ret
      exact ⟨rfl, HFE.out⟩

set_option maxRecDepth 100000 in
theorem lifted (os : Os) (started : os.Started) (H : Type) (enc : TypeId × Value → H) :
    ReturnsInHanded {} Tryz.checked os 6 .any (Rows.mergeHidesSpec.pre6 enc Tryz.prog Tryz.f6 Rows.mergeHidesRow.domain false) (Rows.mergeHidesSpec.post enc Tryz.prog Tryz.f6 false true false false) := by
  refine returnsInHanded_of_change_sized (C := Tryz.checked) own started (by kernel_rfl) Tryz.func6
    (ChangeSpec.witness6 (enc := enc) (C := Tryz.checked) false ⟨#[], #[.slice none 0 0, .string ByteArray.empty], []⟩ 8 (by kernel_rfl) (by kernel_rfl) (by kernel_rfl) (by kernel_rfl)) ?_
  intro W base args ds gs before hval0 hW hcnd hsz _
  have hval : ∀ (j : Nat) t v, Tryz.f6.params[j]? = some t → args[j]? = some v → Value.okWide Tryz.prog W .any base t v := hval0
  have hW' := hW
  obtain ⟨p, q, hA0, hV, rfl, hfz, hnd⟩ := hW
  have hA : DataW.TrodAll enc Tryz.prog W 0 (fun _ => true) true Tryz.f6.params.toList args.toList ds p := hA0
  rw [Tryz.params6] at hA hval
  obtain ⟨v0, vs0, d0, ds0, p0, q0, hargs, rfl, rfl, h0, r0⟩ := trodAll_cons hA
  obtain ⟨v1, vs1, d1, ds1, p1, q1, rfl, rfl, rfl, h1, r1⟩ := trodAll_cons r0
  obtain ⟨rfl, rfl, rfl⟩ := trodAll_nil r1
  obtain rfl : args = #[v0, v1] := by cases args; simp_all
  obtain ⟨rfl, rfl⟩ := trodVars_none hV
  have hlt := fun x hx => hW'.lt x hx
  have t0 := h0
  obtain ⟨A0, n0, c0, x0, rfl, e0, s0⟩ := cb.open_acts (hval 0 22 v0 rfl rfl) h0
  obtain ⟨a1, rfl, rfl, rfl, w1⟩ := open_string Tryz.underlying9 (hval 1 9 v1 rfl rfl) h1
  have b1 : a1.size ≤ 140737488351232 := by
    have := sized_string hsz (j := 1) (t := 9) rfl rfl
    simpa [reachBytes] using this
  clear hA0 hval0
  refine (walk A0 n0 c0 x0 a1 W e0 s0 b1).mono fun e W' ⟨he, hg⟩ => ?_
  subst he
  exact ⟨_, rfl, cb.law_post (pv := []) hW' (fun _ _ _ => (trodAll_cons_mk (shut_bool Tryz.underlying4 _) trodAll_mk0)) (fun sp hsp => (trodAll_cons_mk (cb.arg_stays t0 hg (by simp +contextual) hlt hsp laid) (trodAll_cons_mk (shut_string Tryz.underlying9 w1) trodAll_mk0))) (fun _ _ => rfl) (by simp)
    hg (ok_one (by kernel_rfl) rfl (okWide_bool_mk Tryz.underlying4 _))⟩

theorem over : Rows.mergeHidesRow.holds Tryz.pinned (OpenSpec.ofChange Rows.mergeHidesSpec) :=
  OpenClaim.holds_of_wide 6 Tryz.f6 rfl rfl rfl rfl rfl rfl rfl ⟨rfl, rfl, rfl, rfl, rfl⟩ rfl rfl rfl rfl rfl (by kernel_rfl) Tryz.func6 (by kernel_rfl)
    (of_decide_eq_true (by kernel_rfl)) (by unfold Func.isWrapper; first | (rw [if_pos (by decide +kernel)]; kernel_rfl) | (rw [if_neg (by decide +kernel)]; exact ⟨rfl, rfl⟩))
    (fun os started H enc _ => lifted os started H enc)

/-- The statement. -/
theorem proved : Rows.MergeHidesSaid :=
  over
end Go.Proofs.YtkbdmjcdhkdanaaGreat.mergeHides
