/- For every list of acts, every node and every name the law MergeDown returns true, and what is handed in reads as it did; there are no conditions. -/
import Derived.Test.YtkbdmjcdhkdanaaGreatRows
import Derived.Test.YtkbdmjcdhkdanaaGreatZ37
import Derived.Deep.RegionWith
import Derived.Deep.LoopGhost
import Derived.StillTailTactics
import Derived.Deep.QuietTactic
import Derived.BigQuiet
import Derived.ProofKit
import Derived.OpenShut
import Derived.ShutString
import Derived.SizedLaws
namespace Go.Proofs.YtkbdmjcdhkdanaaGreat.mergeDown
open Go.ChangeShapes Go.WideShapes Go.ChangeAt Go.RowKit
open Go.ChangeMaps (open_string shut_string)
open Go.Proofs.YtkbdmjcdhkdanaaGreat.mg
set_option linter.unusedVariables false
set_option linter.unusedSimpArgs false

theorem own : ownKnob Tryz.prog.godebug = none := by kernel_rfl
theorem laid : laidOutB Tryz.prog = true := by kernel_rfl

open Go.Proofs.YtkbdmjcdhkdanaaGreat.br (BS Ino Inv fresh)
open Go.Proofs.YtkbdmjcdhkdanaaGreat.cb (BrX RetW RetI No Act7 Acts Bt BuildE build_any)
open Go.Proofs.YtkbdmjcdhkdanaaGreat.bl (Pq Only)
set_option maxRecDepth 100000 in
set_option maxHeartbeats 8000000 in
theorem walk (A : Option Addr) (n c : Nat) (F : Nat → Act7) (nd : Nd) (s : ByteArray) (w : World) (k1 : n ≤ c ∧ c ≤ maxLen) (hF : Acts w w.heap.size A n F) (ws : s.size ≤ 140737488351232) :
    Calls Tryz.prog 9 #[.slice A n c, Nv nd, .string s] w (AwakeE w) := by
  have hnm : n ≤ maxLen := Nat.le_trans k1.1 k1.2
  obtain ⟨n1, n2⟩ := nd
  obtain ⟨w0, hw0⟩ : ∃ w0, w.alloc (.cells #[.int .i64 n1, .int .i64 n2] 24) = w0 := ⟨_, rfl⟩
  have HB0 := Lib.hid (show Below w.heap.size w w0 by rw [← hw0]; exact bel_alloc _ _)
  have HN0 := Lib.hid (show Nb w0 w.heap.size (n1, n2) by rw [← hw0]; exact Nb.new w n1 n2)
  have HBD := Lib.hid (fun w1 (hb : Below w0.heap.size w0 w1) => build_any A n c F w0 w1 hnm (acts_up (hF.below HB0.out) HB0.out.size) hb)
  obtain ⟨g0, hg0⟩ : ∃ g, w.heap.size = g := ⟨_, rfl⟩
  rw [hg0] at HN0
  clear k1 hF hnm
  go_enter Tryz.func9, Tryz.ntmps9
  go_wp2_with fail
  refine (awake_any _).mono ?_
  rintro _ w1 ⟨rfl, hb1⟩
  have HB1 := Lib.hid (HBD.out _ hb1)
  clear hb1 HBD hw0
  go_wp2_with fail
  refine HB1.out.mono ?_
  rintro _ w2 h2
  clear HB1
  rcases h2 with ⟨v, rfl, h2⟩ | ⟨G, p, U, L, rfl, h2⟩
  · have HE := Lib.hid (bel_step HB0.out h2)
    clear h2
    go_wp2_with fail
    go_ret
    exact ⟨rfl, HE.out⟩
  have H2 := Lib.hid h2
  clear h2
  obtain ⟨-, c0, c1, -, -⟩ := H2.out
  have HN2 := Lib.hid (HN0.out.below H2.out.q.bel)
  go_wp2_with fail
  go_region_held3 (fun w' => w'.cell? ⟨G, 0, none⟩ = some (Pq p.P1) ∧ w'.cell? ⟨G, 1, none⟩ = some (Pq p.P2))
    (first | exact ⟨c0, c1⟩ | exact S8 | assumption | go_keep)
    (first | (go_at_call 13; ((with_reducible refine (Bt.new (Bt.below H2.out (Below.refl w2.heap.size w2).drew) 1 1).mono ?_); rintro _ wv ⟨V, rfl, hv3, hb3⟩; have HS3 := Lib.hid ((Below.refl w2.heap.size w2).drew.trans hb3); have HV := Lib.hid hv3; have HT := Lib.hid (Bt.below H2.out HS3.out); have HNv := Lib.hid (HN2.out.below HS3.out); have S8 := And.intro HT.out.c0 HT.out.c1)))
  all_goals
    clear c0 c1 S8 hv3 hb3 HS3 H2 HN0 HN2
    have HBv := Lib.hid (show Below w.heap.size w wv from bel_step HB0.out HT.out.q.bel)
    have HI := Lib.hid (And.intro (Bt.good1 HT.out) (Bt.good2 HT.out))
    have HTX := Lib.hid (fun W (hb : Below wv.heap.size wv W) => Bt.below HT.out hb)
    have HVX := Lib.hid (fun W (hb : Below wv.heap.size wv W) => HV.out.below hb)
    have HR0 := Lib.hid (Below.refl wv.heap.size wv)
    obtain ⟨r, hr⟩ : ∃ r, getV U L (n1, n2) s = r := ⟨_, rfl⟩
    have HD := Lib.hid (show r.2 = 0 → Down U L (n1, n2) r.1 s from fun e => by rw [← hr] at e ⊢; exact get_down HI.out.1 HI.out.2 (n1, n2) s e)
    have HZ := Lib.hid (show r.2 ≠ 0 → r.1 = (0, 0) from fun e => by rw [← hr] at e ⊢; exact getV_none e)
    have HG := Lib.hid (show ∀ W, Below wv.heap.size wv W → Calls Tryz.prog 16 #[Pq V, Nv (n1, n2), .string s] W (fun e w' => e = .returned (.tuple #[Nv r.1, .int .i64 r.2]) ∧ Below W.heap.size W w') from fun W hb => by have := get_any (HVX.out W hb) (n1, n2) s; rw [hr] at this; exact this)
    clear hr
    obtain ⟨⟨x1, x2⟩, e⟩ := r
    dsimp only at HD HZ HG
    have HKD := Lib.hid (fun W (hb : Below wv.heap.size wv W) => kind_any (HVX.out W hb) (x1, x2))
    unfold RetI at HKD
    have hgd := guard24
    have HQ := Lib.hid (fun W => run_eql24 (x1, x2) (0, 0) W)
    obtain ⟨m0, m1⟩ := HNv.out
    dsimp only at m0 m1
    go_wp2_with fail
    refine (HG.out _ HR0.out).mono ?_
    rintro _ w11 ⟨rfl, hb11⟩
    have HR11 := Lib.hid (bel_step HR0.out hb11)
    have HN11 := Lib.hid (HNv.out.below hb11)
    clear hb11
    clear m0 m1
    obtain ⟨w12, hw12⟩ : ∃ w12, w11.alloc (.cells #[.int .i64 x1, .int .i64 x2] 24) = w12 := ⟨_, rfl⟩
    have hb12 : Below w11.heap.size w11 w12 := by rw [← hw12]; exact bel_alloc _ _
    have HR12 := Lib.hid (bel_step HR11.out hb12)
    have HN12 := Lib.hid (HN11.out.below hb12)
    have HX12 := Lib.hid (show Nb w12 w11.heap.size (x1, x2) by rw [← hw12]; exact Nb.new w11 x1 x2)
    obtain ⟨gHX, hgHX⟩ : ∃ g, w11.heap.size = g := ⟨_, rfl⟩
    rw [hgHX] at HX12
    clear hb12
    obtain ⟨y0, y1⟩ := HX12.out
    dsimp only at y0 y1
    go_upto_region 8 with fail
    by_cases he : e = 0
    case neg =>
      have hx := HZ.out he
      have q0 : (e != 0) = true := by simpa using he
      have hq : ∀ W, (binOp .eql 24 (.agg #[.int .i64 x1, .int .i64 x2]) (.agg #[.int .i64 0, .int .i64 0])).run Tryz.prog W = .ok (.bool true) W := fun W => by rw [← decide_eq_true hx]; exact HQ.out W
      clear he hx HQ
      have HFE := Lib.hid (bel_step HBv.out HR12.out)
      go_wp2_with fail
      go_ret
      exact ⟨rfl, HFE.out⟩
    subst he
    have HDD := Lib.hid (HD.out rfl)
    have hq : ∀ W, (binOp .eql 24 (.agg #[.int .i64 x1, .int .i64 x2]) (.agg #[.int .i64 0, .int .i64 0])).run Tryz.prog W = .ok (.bool false) W := fun W => by rw [← decide_eq_false HDD.out.some]; exact HQ.out W
    have hkn := HDD.out.kind
    generalize kindV U L (x1, x2) = kd at *
    have qk : (kd == 0) = false := by simpa using hkn
    clear HQ HD HZ hkn
    go_wp2_with fail
    refine (HKD.out _ HR12.out).mono ?_
    rintro _ w13 ⟨rfl, hb13⟩
    have HR13 := Lib.hid (bel_step HR12.out hb13)
    have HN13 := Lib.hid (HN12.out.below hb13)
    have HX13 := Lib.hid (HX12.out.below hb13)
    clear hb13
    clear y0 y1 hq HKD
    obtain ⟨y0, y1⟩ := HX13.out
    dsimp only at y0 y1
    by_cases e1' : x1 = 0
    · subst e1'
      have e2' : x2 ≠ 0 := fun e => HDD.out.some (by rw [e])
      obtain ⟨-, c0, c1, -, -⟩ := HTX.out _ HR13.out
      obtain ⟨m0, m1⟩ := HN13.out
      dsimp only at m0 m1
      have HLW := Lib.hid (HDD.out.low e2')
      have HGL := Lib.hid (show ∀ W, Below wv.heap.size wv W → Calls Tryz.prog 31 #[Pq p.P2, .int .i64 n2, .string s] W (fun e w' => e = .returned (.tuple #[.int .i64 x2, .int .i64 0]) ∧ Below W.heap.size W w') from fun W hb => by have := Bt.getL (HTX.out W hb) n2 s; rw [show L.get n2 s = (x2, 0) from HLW.out] at this; exact this)
      have q2 : (x2 != 0) = true := by simpa using e2'
      go_wp2_with fail
      go_region_held3 (fun w' => w'.cell? ⟨G, 1, none⟩ = some (Pq p.P2) ∧ w'.cell? ⟨g0, 1, none⟩ = some (.int .i64 n2))
        (first | exact ⟨c1, m1⟩ | exact S8 | assumption | go_keep)
        (first | (go_at_call 31; ((with_reducible refine (HGL.out _ HR13.out.drew).mono ?_); rintro _ w14 ⟨rfl, hb14⟩; have HS14 := Lib.hid ((Below.refl w13.heap.size w13).drew.trans hb14); have HR14 := Lib.hid (bel_step HR13.out HS14.out); have HN14 := Lib.hid (HN13.out.below HS14.out); have HX14 := Lib.hid (HX13.out.below HS14.out); have S8 := And.intro ((HTX.out _ HR14.out).c1) (HN14.out.c1); )))
      all_goals
        clear c0 c1 m0 m1 y0 y1 S8 hb14 HGL HLW
        obtain ⟨y0, y1⟩ := HX14.out
        dsimp only at y0 y1
        have HXB := Lib.hid (fun p' : BelowOf w14 => HX14.out.below p'.h)
        have HTB := Lib.hid (fun p' : BelowOf w14 => HTX.out _ (p'.step HR14.out))
        have z0 : ∀ p' : BelowOf w14, p'.W.cell? ⟨gHX, 0, none⟩ = some (.int .i64 0) := fun p' => (HXB.out p').c0
        have z1 : ∀ p' : BelowOf w14, p'.W.cell? ⟨gHX, 1, none⟩ = some (.int .i64 x2) := fun p' => (HXB.out p').c1
        have z2 : ∀ p' : BelowOf w14, p'.W.cell? ⟨G, 0, none⟩ = some (Pq p.P1) := fun p' => (HTB.out p').c0
        have z3 : ∀ p' : BelowOf w14, p'.W.cell? ⟨G, 1, none⟩ = some (Pq p.P2) := fun p' => (HTB.out p').c1
        have HCA := Lib.hid trivial
        have HCB := Lib.hid trivial
        go_upto_region 20 with fail
        refine wp_region_below (by kernel_rfl) (by kernel_rfl) ?_
        repeat (go_big_quiet_step (fail))
        refine wpQuiet_nil ?_
        rintro wz ⟨⟨_, hz⟩, rfl⟩
        have HFE := Lib.hid (bel_step HBv.out (bel_step HR14.out hz))
        clear hz
        go_wp2_with fail
        go_ret
        exact ⟨rfl, HFE.out⟩
    obtain ⟨-, c0, c1, -, -⟩ := HTX.out _ HR13.out
    obtain ⟨m0, m1⟩ := HN13.out
    dsimp only at m0 m1
    have HUP := Lib.hid (HDD.out.up e1')
    have HGU := Lib.hid (show ∀ W, Below wv.heap.size wv W → Calls Tryz.prog 31 #[Pq p.P1, .int .i64 n1, .string s] W (fun e w' => e = .returned (.tuple #[.int .i64 x1, .int .i64 0]) ∧ Below W.heap.size W w') from fun W hb => by have := Bt.getU (HTX.out W hb) n1 s; rw [show U.get n1 s = (x1, 0) from HUP.out] at this; exact this)
    have q1 : (x1 != 0) = true := by simpa using e1'
    go_wp2_with fail
    go_region_held3 (fun w' => w'.cell? ⟨G, 0, none⟩ = some (Pq p.P1) ∧ w'.cell? ⟨g0, 0, none⟩ = some (.int .i64 n1))
      (first | exact ⟨c0, m0⟩ | exact S8 | assumption | go_keep)
      (first | (go_at_call 31; ((with_reducible refine (HGU.out _ HR13.out.drew).mono ?_); rintro _ w14 ⟨rfl, hb14⟩; have HS14 := Lib.hid ((Below.refl w13.heap.size w13).drew.trans hb14); have HR14 := Lib.hid (bel_step HR13.out HS14.out); have HN14 := Lib.hid (HN13.out.below HS14.out); have HX14 := Lib.hid (HX13.out.below HS14.out); have S8 := And.intro ((HTX.out _ HR14.out).c0) (HN14.out.c0); )))
    all_goals
      clear c0 c1 m0 m1 y0 y1 S8 hb14 HGU HUP
      obtain ⟨y0, y1⟩ := HX14.out
      dsimp only at y0 y1
      by_cases e2' : x2 = 0
      · subst e2'
        have HXB := Lib.hid (fun p' : BelowOf w14 => HX14.out.below p'.h)
        have HTB := Lib.hid (fun p' : BelowOf w14 => HTX.out _ (p'.step HR14.out))
        have z0 : ∀ p' : BelowOf w14, p'.W.cell? ⟨gHX, 0, none⟩ = some (.int .i64 x1) := fun p' => (HXB.out p').c0
        have z1 : ∀ p' : BelowOf w14, p'.W.cell? ⟨gHX, 1, none⟩ = some (.int .i64 0) := fun p' => (HXB.out p').c1
        have z2 : ∀ p' : BelowOf w14, p'.W.cell? ⟨G, 0, none⟩ = some (Pq p.P1) := fun p' => (HTB.out p').c0
        have z3 : ∀ p' : BelowOf w14, p'.W.cell? ⟨G, 1, none⟩ = some (Pq p.P2) := fun p' => (HTB.out p').c1
        have q9 : (x1 == 0) = false := by simpa using e1'
        have HCA := Lib.hid trivial
        have HCB := Lib.hid trivial
        go_upto_region 20 with fail
        refine wp_region_below (by kernel_rfl) (by kernel_rfl) ?_
        repeat (go_big_quiet_step (fail))
        refine wpQuiet_nil ?_
        rintro wz ⟨⟨_, hz⟩, rfl⟩
        have HFE := Lib.hid (bel_step HBv.out (bel_step HR14.out hz))
        clear hz
        go_wp2_with fail
        go_ret
        exact ⟨rfl, HFE.out⟩
      obtain ⟨-, c0, c1, -, -⟩ := HTX.out _ HR14.out
      obtain ⟨m0, m1⟩ := HN14.out
      dsimp only at m0 m1
      have HLW := Lib.hid (HDD.out.low e2')
      have HGL := Lib.hid (show ∀ W, Below wv.heap.size wv W → Calls Tryz.prog 31 #[Pq p.P2, .int .i64 n2, .string s] W (fun e w' => e = .returned (.tuple #[.int .i64 x2, .int .i64 0]) ∧ Below W.heap.size W w') from fun W hb => by have := Bt.getL (HTX.out W hb) n2 s; rw [show L.get n2 s = (x2, 0) from HLW.out] at this; exact this)
      have q2 : (x2 != 0) = true := by simpa using e2'
      go_wp2_with fail
      go_region_held3 (fun w' => w'.cell? ⟨G, 1, none⟩ = some (Pq p.P2) ∧ w'.cell? ⟨g0, 1, none⟩ = some (.int .i64 n2))
        (first | exact ⟨c1, m1⟩ | exact S8 | assumption | go_keep)
        (first | (go_at_call 31; ((with_reducible refine (HGL.out _ HR14.out.drew).mono ?_); rintro _ w15 ⟨rfl, hb15⟩; have HS15 := Lib.hid ((Below.refl w14.heap.size w14).drew.trans hb15); have HR15 := Lib.hid (bel_step HR14.out HS15.out); have HN15 := Lib.hid (HN14.out.below HS15.out); have HX15 := Lib.hid (HX14.out.below HS15.out); have S8 := And.intro ((HTX.out _ HR15.out).c1) (HN15.out.c1); )))
      all_goals
        clear c0 c1 m0 m1 y0 y1 S8 hb15 HGL HLW
        obtain ⟨y0, y1⟩ := HX15.out
        dsimp only at y0 y1
        have q9 : (x1 == 0) = false := by simpa using e1'
        have q8 : (x2 == 0) = false := by simpa using e2'
        have HXB := Lib.hid (fun p' : BelowOf w15 => HX15.out.below p'.h)
        have HTB := Lib.hid (fun p' : BelowOf w15 => HTX.out _ (p'.step HR15.out))
        have z0 : ∀ p' : BelowOf w15, p'.W.cell? ⟨gHX, 0, none⟩ = some (.int .i64 x1) := fun p' => (HXB.out p').c0
        have z1 : ∀ p' : BelowOf w15, p'.W.cell? ⟨gHX, 1, none⟩ = some (.int .i64 x2) := fun p' => (HXB.out p').c1
        have z2 : ∀ p' : BelowOf w15, p'.W.cell? ⟨G, 0, none⟩ = some (Pq p.P1) := fun p' => (HTB.out p').c0
        have z3 : ∀ p' : BelowOf w15, p'.W.cell? ⟨G, 1, none⟩ = some (Pq p.P2) := fun p' => (HTB.out p').c1
        have HK2 := Lib.hid (HDD.out.both e1' e2')
        have HCA := Lib.hid (fun p' : BelowOf w15 => calls_below p' (v := .int .i64 2) (by have := Bt.kindU (HTB.out p') x1; rw [HK2.out.1] at this; exact this))
        have HCB := Lib.hid (fun p' : BelowOf w15 => calls_below p' (v := .int .i64 2) (by have := Bt.kindL (HTB.out p') x2; rw [HK2.out.2] at this; exact this))
        go_upto_region 20 with fail
        refine wp_region_below (by kernel_rfl) (by kernel_rfl) ?_
        repeat (go_big_quiet_step ((first | (go_at_call 32; with_reducible exact HCA.out _) | (go_at_call 32; with_reducible exact HCB.out _) | fail)))
        refine wpQuiet_nil ?_
        rintro wz ⟨⟨_, hz⟩, rfl⟩
        have HFE := Lib.hid (bel_step HBv.out (bel_step HR15.out hz))
        clear hz
        go_wp2_with fail
        go_ret
        exact ⟨rfl, HFE.out⟩

set_option maxRecDepth 100000 in
theorem lifted (os : Os) (started : os.Started) (H : Type) (enc : TypeId × Value → H) :
    ReturnsInHanded {} Tryz.checked os 9 .any (Rows.mergeDownSpec.pre6 enc Tryz.prog Tryz.f9 Rows.mergeDownRow.domain false) (Rows.mergeDownSpec.post enc Tryz.prog Tryz.f9 false true false false) := by
  refine returnsInHanded_of_change_sized (C := Tryz.checked) own started (by kernel_rfl) Tryz.func9
    (ChangeSpec.witness6 (enc := enc) (C := Tryz.checked) false ⟨#[], #[.slice none 0 0, .agg #[.int .i64 0, .int .i64 0], .string ByteArray.empty], []⟩ 8 (by kernel_rfl) (by kernel_rfl) (by kernel_rfl) (by kernel_rfl)) ?_
  intro W base args ds gs before hval0 hW hcnd hsz _
  have hval : ∀ (j : Nat) t v, Tryz.f9.params[j]? = some t → args[j]? = some v → Value.okWide Tryz.prog W .any base t v := hval0
  have hW' := hW
  obtain ⟨p, q, hA0, hV, rfl, hfz, hnd⟩ := hW
  have hA : DataW.TrodAll enc Tryz.prog W 0 (fun _ => true) true Tryz.f9.params.toList args.toList ds p := hA0
  rw [Tryz.params9] at hA hval
  obtain ⟨v0, vs0, d0, ds0, p0, q0, hargs, rfl, rfl, h0, r0⟩ := trodAll_cons hA
  obtain ⟨v1, vs1, d1, ds1, p1, q1, rfl, rfl, rfl, h1, r1⟩ := trodAll_cons r0
  obtain ⟨v2, vs2, d2, ds2, p2, q2, rfl, rfl, rfl, h2, r2⟩ := trodAll_cons r1
  obtain ⟨rfl, rfl, rfl⟩ := trodAll_nil r2
  obtain rfl : args = #[v0, v1, v2] := by cases args; simp_all
  obtain ⟨rfl, rfl⟩ := trodVars_none hV
  have hlt := fun x hx => hW'.lt x hx
  have t0 := h0
  obtain ⟨A0, n0, c0, x0, rfl, e0, s0⟩ := cb.open_acts (hval 0 22 v0 rfl rfl) h0
  have t1 := h1
  obtain ⟨n1, rfl⟩ := open_node (hval 1 24 v1 rfl rfl) h1
  obtain ⟨a2, rfl, rfl, rfl, w2⟩ := open_string Tryz.underlying9 (hval 2 9 v2 rfl rfl) h2
  have b2 : a2.size ≤ 140737488351232 := by
    have := sized_string hsz (j := 2) (t := 9) rfl rfl
    simpa [reachBytes] using this
  clear hA0 hval0
  refine (walk A0 n0 c0 x0 n1 a2 W e0 s0 b2).mono fun e W' ⟨he, hg⟩ => ?_
  subst he
  exact ⟨_, rfl, cb.law_post (pv := []) hW' (fun _ _ _ => (trodAll_cons_mk (shut_bool Tryz.underlying4 _) trodAll_mk0)) (fun sp hsp => (trodAll_cons_mk (cb.arg_stays t0 hg (by simp +contextual) hlt hsp laid) (trodAll_cons_mk (node_stays t1 hg (by simp +contextual) hlt hsp laid) (trodAll_cons_mk (shut_string Tryz.underlying9 w2) trodAll_mk0)))) (fun _ _ => rfl) (by simp)
    hg (ok_one (by kernel_rfl) rfl (okWide_bool_mk Tryz.underlying4 _))⟩

theorem over : Rows.mergeDownRow.holds Tryz.pinned (OpenSpec.ofChange Rows.mergeDownSpec) :=
  OpenClaim.holds_of_wide 9 Tryz.f9 rfl rfl rfl rfl rfl rfl rfl ⟨rfl, rfl, rfl, rfl, rfl⟩ rfl rfl rfl rfl rfl (by kernel_rfl) Tryz.func9 (by kernel_rfl)
    (of_decide_eq_true (by kernel_rfl)) (by unfold Func.isWrapper; first | (rw [if_pos (by decide +kernel)]; kernel_rfl) | (rw [if_neg (by decide +kernel)]; exact ⟨rfl, rfl⟩))
    (fun os started H enc _ => lifted os started H enc)

/-- The statement. -/
theorem proved : Rows.MergeDownSaid :=
  over
end Go.Proofs.YtkbdmjcdhkdanaaGreat.mergeDown
