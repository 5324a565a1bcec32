/- For every list of acts and every name the law MergeOpaque returns true, and what is handed in reads as it did; there are no conditions. -/
import Derived.Test.YtkbdmjcdhkdanaaGreatRows
import Derived.Test.YtkbdmjcdhkdanaaGreatZ37
import Derived.Deep.RegionWith
import Derived.Deep.LoopGhost
import Derived.StillTailTactics
import Derived.Deep.QuietTactic
import Derived.BigQuiet
import Derived.ProofKit
import Derived.OpenShut
import Derived.ShutString
import Derived.SizedLaws
namespace Go.Proofs.YtkbdmjcdhkdanaaGreat.mergeOpaque
open Go.ChangeShapes Go.WideShapes Go.ChangeAt Go.RowKit
open Go.ChangeMaps (open_string shut_string)
open Go.Proofs.YtkbdmjcdhkdanaaGreat.mg
set_option linter.unusedVariables false
set_option linter.unusedSimpArgs false

theorem own : ownKnob Tryz.prog.godebug = none := by kernel_rfl
theorem laid : laidOutB Tryz.prog = true := by kernel_rfl

open Go.Proofs.YtkbdmjcdhkdanaaGreat.br (BS Ino Inv fresh)
open Go.Proofs.YtkbdmjcdhkdanaaGreat.cb (BrX RetW RetI No Act7 Acts Bt BuildE build_any)
open Go.Proofs.YtkbdmjcdhkdanaaGreat.bl (Pq Only)
/-- The pair, the view and the branches; the upper branch is S. -/
structure Ut (w0 w : World) (G V : Nat) (p : cb.Pt) (S U L : BS) (T : Nat) (X : Nat → Prop) : Prop where
  q : cb.Q4 w0 w p S L U L T 80 X
  g : X G
  v : X V
  c0 : w.cell? ⟨G, 0, none⟩ = some (Pq p.P1)
  c1 : w.cell? ⟨G, 1, none⟩ = some (Pq p.P2)
  vx : Vx w V p.P1 p.P2 1 1 S L
section
variable {w0 w w' : World} {G V T : Nat} {p : cb.Pt} {S U L : BS} {X : Nat → Prop}
theorem Ut.below (h : Ut w0 w G V p S U L T X) (hb : Below w.heap.size w w') : Ut w0 w' G V p S U L T X :=
  ⟨h.q.below hb, h.g, h.v, (hb.cell (p := ⟨G, 0, none⟩) (h.q.lt h.g)).trans h.c0, (hb.cell (p := ⟨G, 1, none⟩) (h.q.lt h.g)).trans h.c1, h.vx.below hb⟩
theorem Ut.grow (h : Ut w0 w G V p S U L T X) (hb : Below w.heap.size w w') : ∃ Y : Nat → Prop, (∀ b, X b → Y b) ∧ (∀ b, w.heap.size ≤ b → b < w'.heap.size → Y b) ∧ Ut w0 w' G V p S U L T Y :=
  have h' := h.below hb
  ⟨fun b => X b ∨ (w.heap.size ≤ b ∧ b < w'.heap.size), fun _ h => .inl h, fun _ h1 h2 => .inr ⟨h1, h2⟩, h.q.box hb fun _ hx => hx, .inl h.g, .inl h.v, h'.c0, h'.c1, h'.vx⟩
theorem Ut.new (h : Bt w0 w G p U L) : Calls Tryz.prog 13 #[Pq p.P1, Pq p.P2, .int .i64 1, .int .i64 1] w (fun e w' => ∃ V X, e = .returned (Pq V) ∧ Ut w0 w' G V p U U L 80 X ∧ Below w.heap.size w w') :=
  (new_any p.P1 p.P2 1 1 w).mono fun e w' ⟨he, hw⟩ => by
    have hb : Below w.heap.size w w' := by rw [hw]; exact bel_alloc _ _
    have hT := Bt.below h hb
    exact ⟨w.heap.size, fun b => b = G ∨ (w.heap.size ≤ b ∧ b < w'.heap.size), he, ⟨h.q.box hb fun _ hx => hx, .inl rfl, .inr ⟨Nat.le_refl _, by rw [hw, World.size_alloc]; exact Nat.lt_succ_self _⟩, hT.c0, hT.c1, by rw [hw]; exact Bt.made h 1 1⟩, hb⟩
theorem Ut.turn {S' : BS} {T' : Nat} (h : Ut w0 w G V p S U L T X) (hq : cb.Q4 w0 w' p S' L U L T' 80 X) (hs : cb.Same X w w') : Ut w0 w' G V p S' U L T' X :=
  ⟨hq, h.g, h.v, (World.cell?_of_block (a := ⟨G, 0, none⟩) (hs G h.g)).trans h.c0, (World.cell?_of_block (a := ⟨G, 1, none⟩) (hs G h.g)).trans h.c1,
    ⟨(World.cell?_of_block (a := ⟨V, 0, none⟩) (hs V h.v)).trans h.vx.c0, (World.cell?_of_block (a := ⟨V, 1, none⟩) (hs V h.v)).trans h.vx.c1, (World.cell?_of_block (a := ⟨V, 2, none⟩) (hs V h.v)).trans h.vx.c2, (World.cell?_of_block (a := ⟨V, 3, none⟩) (hs V h.v)).trans h.vx.c3, ⟨_, _, _, hq.brx1⟩, ⟨_, _, _, hq.brx2⟩⟩⟩
theorem Ut.mark (h : Ut w0 w G V p S U L T X) (hT : T ≤ 1000) (i m : Int) : Calls Tryz.prog 36 #[Pq p.P1, .int .i64 i, .int .i64 m] w (fun e w' => e = .returned (.int .i64 (S.mark i m).1) ∧ Ut w0 w' G V p (S.mark i m).2 U L (T + 1) X ∧ cb.Same X w w') :=
  (h.q.code1 (S' := (S.mark i m).2) fun O k => cb.kb_mark k hT i m).mono fun e w' ⟨h1, h2, h3⟩ => ⟨h1, h.turn h2 h3, h3⟩
theorem Ut.make (h : Ut w0 w G V p S U L T X) (hT : T ≤ 1000) (d : Int) (s : ByteArray) (k : Int) (t : ByteArray) (hm : s.size ≤ 9223372036854775807) (hmt : t.size ≤ 9223372036854775807) : Calls Tryz.prog 34 #[Pq p.P1, .int .i64 d, .string s, .int .i64 k, .string t] w (fun e w' => e = .returned (.tuple #[.int .i64 (S.make d s k t).1.1, .int .i64 (S.make d s k t).1.2]) ∧ Ut w0 w' G V p (S.make d s k t).2 U L (T + 1) X ∧ cb.Same X w w') :=
  (h.q.code1 (S' := (S.make d s k t).2) fun O kb => cb.kb_make kb hT d s k t hm hmt).mono fun e w' ⟨h1, h2, h3⟩ => ⟨h1, h.turn h2 h3, h3⟩
theorem Ut.unlink (h : Ut w0 w G V p S U L T X) (hT : T ≤ 1000) (d : Int) (s : ByteArray) : Calls Tryz.prog 35 #[Pq p.P1, .int .i64 d, .string s] w (fun e w' => e = .returned (.int .i64 (S.unlink d s).1) ∧ Ut w0 w' G V p (S.unlink d s).2 U L (T + 1) X ∧ cb.Same X w w') :=
  (h.q.code1 (S' := (S.unlink d s).2) fun O kb => cb.kb_unlink kb hT d s).mono fun e w' ⟨h1, h2, h3⟩ => ⟨h1, h.turn h2 h3, h3⟩
theorem Ut.get (h : Ut w0 w G V p S U L T X) (i : Int) (s : ByteArray) : Calls Tryz.prog 31 #[Pq p.P1, .int .i64 i, .string s] w (fun e w' => e = .returned (.tuple #[.int .i64 (S.get i s).1, .int .i64 (S.get i s).2]) ∧ Below w.heap.size w w') := cb.x_get h.q.brx1 i s
theorem Ut.kind (h : Ut w0 w G V p S U L T X) (i : Int) : Calls Tryz.prog 32 #[Pq p.P1, .int .i64 i] w (fun e w' => e = .returned (.int .i64 (S.kindOf i)) ∧ Below w.heap.size w w') := cb.x_kind h.q.brx1 i
theorem Ut.marks (h : Ut w0 w G V p S U L T X) (i : Int) : Calls Tryz.prog 33 #[Pq p.P1, .int .i64 i] w (fun e w' => e = .returned (.int .i64 (S.marksOf i)) ∧ Below w.heap.size w w') := cb.x_marks h.q.brx1 i
theorem Ut.inv1 (h : Ut w0 w G V p S U L T X) : Inv S 500 := h.q.good1.1
theorem Ut.inv2 (h : Ut w0 w G V p S U L T X) : Inv L 500 := h.q.good2.1
theorem Ut.all (h : Ut w0 w G V p S U L T X) (n : Nd) : Calls Tryz.prog 20 #[Pq V, Nv n] w (AllE w S L n) := all_any h.vx h.inv1 h.inv2 n
end
/-- Names in a row of protected blocks. -/
def NX (w : World) (X : Nat → Prop) (A : Option Addr) (l : List ByteArray) : Prop := ∀ k x, l[k]? = some x → ∃ G, A = some ⟨G, 0, none⟩ ∧ X G ∧ w.cell? ⟨G, k, none⟩ = some (.string x)
theorem NX.of {w : World} {lo : Nat} {X : Nat → Prop} {A : Option Addr} {l : List ByteArray} (h : NR w lo A l) (hX : ∀ b, lo ≤ b → b < w.heap.size → X b) : NX w X A l := fun k x hx => by
  obtain ⟨G, e, h1, h2, h3, _⟩ := h k x hx
  exact ⟨G, e, hX G h1 h2, h3⟩
theorem NX.same {w w' : World} {X : Nat → Prop} {A : Option Addr} {l : List ByteArray} (h : NX w X A l) (hs : cb.Same X w w') : NX w' X A l := fun k x hx => by
  obtain ⟨G, e, h1, h2⟩ := h k x hx
  exact ⟨G, e, h1, (World.cell?_of_block (a := ⟨G, k, none⟩) (hs G h1)).trans h2⟩
theorem NX.below {w w' : World} {X : Nat → Prop} {A : Option Addr} {l : List ByteArray} (h : NX w X A l) (hb : Below w.heap.size w w') : NX w' X A l := fun k x hx => by
  obtain ⟨G, e, h1, h2⟩ := h k x hx
  exact ⟨G, e, h1, (hb.cell (p := ⟨G, k, none⟩) (World.block_lt_of_cell? _ _ h2)).trans h2⟩
theorem NX.grow {w : World} {X Y : Nat → Prop} {A : Option Addr} {l : List ByteArray} (h : NX w X A l) (hY : ∀ b, X b → Y b) : NX w Y A l := fun k x hx => by
  obtain ⟨G, e, h1, h2⟩ := h k x hx
  exact ⟨G, e, hY G h1, h2⟩
theorem NX.ns {w : World} {X : Nat → Prop} {A : Option Addr} {l : List ByteArray} (h : NX w X A l) : NS w A l := fun k x hx => by
  obtain ⟨G, e, _, h2⟩ := h k x hx
  exact ⟨G, e, h2⟩
theorem mark_is {S : BS} (hS : Inv S 500) (m : Int) : S.isI 1 = true ∧ S.mark 1 m = (0, S.put 1 { S.at 1 with marks := m }) ∧ (S.put 1 { S.at 1 with marks := m }).isI 1 = true := by
  have hk := root_kind hS
  have hi : S.isI 1 = true := by
    cases h : S.isI 1
    · unfold br.BS.kindOf at hk; rw [h] at hk; cases hk
    · rfl
  refine ⟨hi, by unfold br.BS.mark; rw [if_neg (by rw [hi]; decide)], ?_⟩
  unfold br.BS.isI br.BS.put br.BS.at at *
  simpa [br.upd] using hi
theorem mark_opq {S : BS} (hS : Inv S 500) : opq (S.mark 1 1).2 1 = true := by
  obtain ⟨hi, hm, hi2⟩ := mark_is hS 1
  rw [hm]
  unfold opq br.BS.marksOf
  rw [if_pos hi2]
  unfold br.BS.put br.BS.at
  simp [br.upd]
theorem mark_back {S : BS} (hS : Inv S 500) (m : Int) : ((S.mark 1 m).2.mark 1 (S.marksOf 1)).2 = S := by
  obtain ⟨hi, hm, hi2⟩ := mark_is hS m
  rw [hm]
  unfold br.BS.mark
  rw [if_neg (by rw [hi2]; decide)]
  have hmm : S.marksOf 1 = (S.at 1).marks := by unfold br.BS.marksOf; rw [if_pos hi]
  rw [hmm]
  unfold br.BS.put br.BS.at
  obtain ⟨f, u⟩ := S
  simp only [BS.mk.injEq, and_true]
  funext k
  unfold br.upd
  by_cases h : k = (1 : Int).toNat
  · subst h; simp
  · rw [if_neg h, if_neg h]
theorem root_opq {S L : BS} (hS : Inv S 500) (ho : opq S 1 = true) : rootV S L 1 1 = (1, 0) := by
  unfold rootV
  rw [if_pos (root_kind hS), ho, if_neg (by simp)]
set_option maxRecDepth 100000 in
set_option maxHeartbeats 8000000 in
theorem walk (A : Option Addr) (n c : Nat) (F : Nat → Act7) (s : ByteArray) (w : World) (k1 : n ≤ c ∧ c ≤ maxLen) (hF : Acts w w.heap.size A n F) (ws : s.size ≤ 140737488351232) :
    Calls Tryz.prog 8 #[.slice A n c, .string s] w (AwakeE w) := by
  have hnm : n ≤ maxLen := Nat.le_trans k1.1 k1.2
  have HB0 := Lib.hid (Below.refl w.heap.size w)
  have HBD := Lib.hid (fun w1 (hb : Below w.heap.size w w1) => build_any A n c F w w1 hnm hF hb)
  clear k1 hF hnm
  go_enter Tryz.func8, Tryz.ntmps8
  go_wp2_with fail
  refine (awake_any _).mono ?_
  rintro _ w1 ⟨rfl, hb1⟩
  have HB1 := Lib.hid (HBD.out _ hb1)
  clear hb1 HBD
  go_wp2_with fail
  refine HB1.out.mono ?_
  rintro _ w2 h2
  clear HB1
  rcases h2 with ⟨v, rfl, h2⟩ | ⟨G, p, U, L, rfl, h2⟩
  · have HE := Lib.hid (bel_step HB0.out h2)
    clear h2
    go_wp2_with fail
    go_ret
    exact ⟨rfl, HE.out⟩
  have H2 := Lib.hid h2
  clear h2
  obtain ⟨-, c0, c1, -, -⟩ := H2.out
  go_wp2_with fail
  go_region_held3 (fun w' => w'.cell? ⟨G, 0, none⟩ = some (Pq p.P1) ∧ w'.cell? ⟨G, 1, none⟩ = some (Pq p.P2))
    (first | exact ⟨c0, c1⟩ | exact S8 | assumption | go_keep)
    (first | (go_at_call 13; ((with_reducible refine (Ut.new (Bt.below H2.out (Below.refl w2.heap.size w2).drew)).mono ?_); rintro _ wv ⟨V, X0, rfl, hv3, hb3⟩; have HV := Lib.hid hv3; have S8 := And.intro HV.out.c0 HV.out.c1)))
  all_goals
    clear c0 c1 S8 hv3 hb3 H2
    have HI := Lib.hid (And.intro HV.out.inv1 HV.out.inv2)
    obtain ⟨m1, hm1⟩ : ∃ m, U.marksOf 1 = m := ⟨_, rfl⟩
    have HMK := Lib.hid (by have := HV.out.marks 1; rw [hm1] at this; exact this)
    obtain ⟨c0, c1⟩ := And.intro HV.out.c0 HV.out.c1
    go_wp2_with fail
    refine HMK.out.mono ?_
    rintro _ w3 ⟨rfl, hb3⟩
    have H3 := Lib.hid (HV.out.below hb3)
    clear hb3 HMK c0 c1 HV
    obtain ⟨rt, hrt⟩ : ∃ r, rootV U L 1 1 = r := ⟨_, rfl⟩
    have HRT := Lib.hid (root_any H3.out.vx)
    unfold RetW at HRT
    rw [hrt] at HRT
    have HRE := Lib.hid hrt
    go_wp2_with fail
    refine HRT.out.mono ?_
    rintro _ w4 ⟨rfl, hb4⟩
    have H4 := Lib.hid (H3.out.below hb4)
    clear hb4 HRT H3 hrt
    have HAL := Lib.hid (H4.out.all rt)
    unfold AllE at HAL
    go_wp2_with fail
    refine HAL.out.mono ?_
    rintro _ w5 ⟨A1, ca, l, rfl, hal, hnr, hl1, hl2, hl3, hb5⟩
    obtain ⟨X, hX1, hX2, h5⟩ := H4.out.grow hb5
    have H5 := Lib.hid h5
    have HN5 := Lib.hid (NX.of hnr hX2)
    have HAV := Lib.hid hal
    clear hal hnr hb5 hX1 hX2 h5 H4 HAL
    have HMO := Lib.hid (And.intro (mark_opq HI.out.1) (mark_back HI.out.1 1))
    have HM1 := Lib.hid (H5.out.mark (by decide) 1 1)
    rw [hm1] at HMO
    obtain ⟨S, hS⟩ : ∃ S, (U.mark 1 1).2 = S := ⟨_, rfl⟩
    rw [hS] at HMO HM1
    obtain ⟨c0, c1⟩ := And.intro H5.out.c0 H5.out.c1
    obtain ⟨m, hm⟩ : ∃ m, l.length = m := ⟨_, rfl⟩
    have HMM := Lib.hid hm
    rw [hm]
    rw [hm] at hl1 hl3
    clear hS hm hm1
    go_wp2_with fail
    refine HM1.out.mono ?_
    rintro _ w6 ⟨rfl, h6, hs6⟩
    have H6 := Lib.hid h6
    have HN6 := Lib.hid (HN5.out.same hs6)
    have HBM := Lib.hid (bel_step HB0.out h6.q.bel)
    clear h6 hs6 c0 c1 HM1 HN5 H5
    -- the asks behind the mark
    have HR0 := Lib.hid (Below.refl w6.heap.size w6)
    have HUX := Lib.hid (fun W (hb : Below w6.heap.size w6 W) => H6.out.below hb)
    have HJ := Lib.hid (And.intro H6.out.inv1 H6.out.inv2)
    obtain ⟨u, hu⟩ : ∃ u, (S.get 1 s).1 = u := ⟨_, rfl⟩
    obtain ⟨f, hf⟩ : ∃ f, (S.get 1 s).2 = f := ⟨_, rfl⟩
    have HA := Lib.hid (hides_white HJ.out.1 HJ.out.2 s)
    have HB := Lib.hid (hides_file HJ.out.1 HJ.out.2 s)
    have HC := Lib.hid (hides_dir HJ.out.1 HJ.out.2 s)
    have HD := Lib.hid (hides_none HJ.out.1 HJ.out.2 s)
    have HO := Lib.hid (root_opq (L := L) HJ.out.1 HMO.out.1)
    rw [HMO.out.1] at HC HD
    rw [HO.out] at HA HB HC HD
    rw [hf] at HA HB HC HD
    rw [hu] at HA HB HC
    have HRT := Lib.hid (show ∀ W, Below w6.heap.size w6 W → Calls Tryz.prog 14 #[Pq V] W (fun e' w' => e' = .returned (Nv (1, 0)) ∧ Below W.heap.size W w') from fun W hb => by have := root_any (HUX.out W hb).vx; rw [HO.out] at this; exact this)
    have HG := Lib.hid (fun W (hb : Below w6.heap.size w6 W) => get_any (HUX.out W hb).vx (1, 0) s)
    have HGU := Lib.hid (show ∀ W, Below w6.heap.size w6 W → Calls Tryz.prog 31 #[Pq p.P1, .int .i64 1, .string s] W (fun e' w' => e' = .returned (.tuple #[.int .i64 u, .int .i64 f]) ∧ Below W.heap.size W w') from fun W hb => by have := (HUX.out W hb).get 1 s; rw [hu, hf] at this; exact this)
    have HKU := Lib.hid (fun W (hb : Below w6.heap.size w6 W) => (HUX.out W hb).kind u)
    have HMU := Lib.hid (fun W (hb : Below w6.heap.size w6 W) => (HUX.out W hb).mark (by decide) 1 m1)
    rw [HMO.out.2] at HMU
    unfold RetW at HG
    clear hu hf HO
    generalize getV S L (1, 0) s = r at *
    generalize S.kindOf u = ku at *
    obtain ⟨⟨x1, x2⟩, e⟩ := r
    dsimp only at HG
    have hgd := guard24
    have hqr : ∀ W, (binOp .neq 24 (.agg #[.int .i64 1, .int .i64 0]) (.agg #[.int .i64 1, .int .i64 0])).run Tryz.prog W = .ok (.bool false) W := fun W => by rw [show (false : Bool) = !decide (((1, 0) : Nd) = (1, 0)) by simp]; exact run_neq24 (1, 0) (1, 0) W
    go_wp2_with fail
    refine (HRT.out _ HR0.out).mono ?_
    rintro _ w11 ⟨rfl, hb11⟩
    have HR11 := Lib.hid (bel_step HR0.out hb11)
    clear hb11
    go_wp2_with fail
    refine (HG.out _ HR11.out).mono ?_
    rintro _ w12 ⟨rfl, hb12⟩
    have HR12 := Lib.hid (bel_step HR11.out hb12)
    clear hb12
    obtain ⟨w13, hw13⟩ : ∃ w13, w12.alloc (.cells #[.int .i64 x1, .int .i64 x2] 24) = w13 := ⟨_, rfl⟩
    have hb13 : Below w12.heap.size w12 w13 := by rw [← hw13]; exact bel_alloc _ _
    have HR13 := Lib.hid (bel_step HR12.out hb13)
    have HX13 := Lib.hid (show Nb w13 w12.heap.size (x1, x2) by rw [← hw13]; exact Nb.new w12 x1 x2)
    obtain ⟨gHX, hgHX⟩ : ∃ g, w12.heap.size = g := ⟨_, rfl⟩
    rw [hgHX] at HX13
    clear hb13
    obtain ⟨c0, c1⟩ := And.intro (HUX.out _ HR13.out).c0 (HUX.out _ HR13.out).c1
    go_wp2_with fail
    refine (HGU.out _ HR13.out).mono ?_
    rintro _ w14 ⟨rfl, hb14⟩
    have HR14 := Lib.hid (bel_step HR13.out hb14)
    have HX14 := Lib.hid (HX13.out.below hb14)
    clear hb14
    clear c0 c1 HGU
    obtain ⟨c0, c1⟩ := And.intro (HUX.out _ HR14.out).c0 (HUX.out _ HR14.out).c1
    by_cases hf0 : f = 0
    · subst hf0
      go_wp2_with fail
      refine (HKU.out _ HR14.out).mono ?_
      rintro _ w15 ⟨rfl, hb15⟩
      have HR15 := Lib.hid (bel_step HR14.out hb15)
      have HX15 := Lib.hid (HX14.out.below hb15)
      clear hb15
      clear c0 c1
      by_cases hk4 : ku = 4
      · subst hk4
        have hr := HA.out (by first | rfl | trivial) (by first | rfl | trivial)
        simp only [Prod.mk.injEq] at hr
        obtain ⟨⟨rfl, rfl⟩, rfl⟩ := hr
        clear HA HB HC HD
        go_wp2_with fail
        refine (HRT.out _ HR15.out).mono ?_
        rintro _ w16 ⟨rfl, hb16⟩
        have HR16 := Lib.hid (bel_step HR15.out hb16)
        have HX16 := Lib.hid (HX15.out.below hb16)
        clear hb16
        obtain ⟨c0, c1⟩ := And.intro (HUX.out _ HR16.out).c0 (HUX.out _ HR16.out).c1
        have HNL := Lib.hid (HN6.out.below HR16.out)
        go_wp2_with fail
        refine (HMU.out _ HR16.out).mono ?_
        rintro _ w30 ⟨rfl, h30, hs30⟩
        have H30 := Lib.hid h30
        have HN30 := Lib.hid (HNL.out.same hs30)
        clear h30 hs30 HNL c0 c1
        have HRT2 := Lib.hid (root_any H30.out.vx)
        unfold RetW at HRT2
        rw [HRE.out] at HRT2
        go_wp2_with fail
        refine HRT2.out.mono ?_
        rintro _ w31 ⟨rfl, hb31⟩
        have H31 := Lib.hid (H30.out.below hb31)
        have HN31 := Lib.hid (HN30.out.below hb31)
        clear hb31 HRT2 H30 HN30
        have HAL := Lib.hid (H31.out.all rt)
        unfold AllE at HAL
        go_wp2_with fail
        refine HAL.out.mono ?_
        rintro _ w32 ⟨A2, cb, l2, rfl, hal, hnr, hk1, hk2, hk3, hb32⟩
        obtain rfl : l = l2 := HAV.out.same hal
        have HSM := Lib.hid (same_any hnr.ns (HN31.out.below hb32).ns hk1 hk2 (by rw [HMM.out]; exact hl1) hl2)
        rw [decide_eq_true rfl] at HSM
        have HFE := Lib.hid (bel_step HB0.out (H31.out.below hb32).q.bel)
        have hm := HMM.out
        rw [hm] at HSM ⊢
        clear hal hnr hb32 HAL H31 HN31 hm
        go_wp2_with fail
        refine HSM.out.mono ?_
        rintro _ w33 ⟨rfl, hb33⟩
        have HFF := Lib.hid (bel_step HFE.out hb33)
        clear hb33
        go_wp2_with fail
        go_ret
        exact ⟨rfl, HFF.out⟩
      have q4 : (ku == 4) = false := by simpa using hk4
      have hr : ((x1, x2), e) = ((u, 0), 0) := by
        by_cases h2 : ku = 2
        · have := HC.out (by first | rfl | trivial) h2
          rw [if_neg (fun e => by cases e.1)] at this
          exact this
        · exact HB.out (by first | rfl | trivial) hk4 h2
      simp only [Prod.mk.injEq] at hr
      obtain ⟨⟨rfl, rfl⟩, rfl⟩ := hr
      have hq : ∀ W, (binOp .neq 24 (.agg #[.int .i64 x1, .int .i64 0]) (.agg #[.int .i64 x1, .int .i64 0])).run Tryz.prog W = .ok (.bool false) W := fun W => by rw [show (false : Bool) = !decide (((x1, 0) : Nd) = (x1, 0)) by simp]; exact run_neq24 (x1, 0) (x1, 0) W
      clear HA HB HC HD hk4
      go_wp2_with fail
      refine (HRT.out _ HR15.out).mono ?_
      rintro _ w16 ⟨rfl, hb16⟩
      have HR16 := Lib.hid (bel_step HR15.out hb16)
      have HX16 := Lib.hid (HX15.out.below hb16)
      clear hb16
      obtain ⟨y0, y1⟩ := HX16.out
      dsimp only at y0 y1
      obtain ⟨c0, c1⟩ := And.intro (HUX.out _ HR16.out).c0 (HUX.out _ HR16.out).c1
      have HNL := Lib.hid (HN6.out.below HR16.out)
      go_wp2_with fail
      refine (HMU.out _ HR16.out).mono ?_
      rintro _ w30 ⟨rfl, h30, hs30⟩
      have H30 := Lib.hid h30
      have HN30 := Lib.hid (HNL.out.same hs30)
      clear h30 hs30 HNL c0 c1
      have HRT2 := Lib.hid (root_any H30.out.vx)
      unfold RetW at HRT2
      rw [HRE.out] at HRT2
      go_wp2_with fail
      refine HRT2.out.mono ?_
      rintro _ w31 ⟨rfl, hb31⟩
      have H31 := Lib.hid (H30.out.below hb31)
      have HN31 := Lib.hid (HN30.out.below hb31)
      clear hb31 HRT2 H30 HN30
      have HAL := Lib.hid (H31.out.all rt)
      unfold AllE at HAL
      go_wp2_with fail
      refine HAL.out.mono ?_
      rintro _ w32 ⟨A2, cb, l2, rfl, hal, hnr, hk1, hk2, hk3, hb32⟩
      obtain rfl : l = l2 := HAV.out.same hal
      have HSM := Lib.hid (same_any hnr.ns (HN31.out.below hb32).ns hk1 hk2 (by rw [HMM.out]; exact hl1) hl2)
      rw [decide_eq_true rfl] at HSM
      have HFE := Lib.hid (bel_step HB0.out (H31.out.below hb32).q.bel)
      have hm := HMM.out
      rw [hm] at HSM ⊢
      clear hal hnr hb32 HAL H31 HN31 hm
      go_wp2_with fail
      refine HSM.out.mono ?_
      rintro _ w33 ⟨rfl, hb33⟩
      have HFF := Lib.hid (bel_step HFE.out hb33)
      clear hb33
      go_wp2_with fail
      go_ret
      exact ⟨rfl, HFF.out⟩
    have q0 : (f == 0) = false := by simpa using hf0
    have hr := HD.out hf0
    rw [if_pos (.inl (by first | rfl | trivial))] at hr
    simp only [Prod.mk.injEq] at hr
    obtain ⟨⟨rfl, rfl⟩, rfl⟩ := hr
    clear HA HB HC HD hf0
    go_wp2_with fail
    refine (HRT.out _ HR14.out).mono ?_
    rintro _ w15 ⟨rfl, hb15⟩
    have HR15 := Lib.hid (bel_step HR14.out hb15)
    have HX15 := Lib.hid (HX14.out.below hb15)
    clear hb15
    obtain ⟨c0, c1⟩ := And.intro (HUX.out _ HR15.out).c0 (HUX.out _ HR15.out).c1
    have HNL := Lib.hid (HN6.out.below HR15.out)
    go_wp2_with fail
    refine (HMU.out _ HR15.out).mono ?_
    rintro _ w30 ⟨rfl, h30, hs30⟩
    have H30 := Lib.hid h30
    have HN30 := Lib.hid (HNL.out.same hs30)
    clear h30 hs30 HNL c0 c1
    have HRT2 := Lib.hid (root_any H30.out.vx)
    unfold RetW at HRT2
    rw [HRE.out] at HRT2
    go_wp2_with fail
    refine HRT2.out.mono ?_
    rintro _ w31 ⟨rfl, hb31⟩
    have H31 := Lib.hid (H30.out.below hb31)
    have HN31 := Lib.hid (HN30.out.below hb31)
    clear hb31 HRT2 H30 HN30
    have HAL := Lib.hid (H31.out.all rt)
    unfold AllE at HAL
    go_wp2_with fail
    refine HAL.out.mono ?_
    rintro _ w32 ⟨A2, cb, l2, rfl, hal, hnr, hk1, hk2, hk3, hb32⟩
    obtain rfl : l = l2 := HAV.out.same hal
    have HSM := Lib.hid (same_any hnr.ns (HN31.out.below hb32).ns hk1 hk2 (by rw [HMM.out]; exact hl1) hl2)
    rw [decide_eq_true rfl] at HSM
    have HFE := Lib.hid (bel_step HB0.out (H31.out.below hb32).q.bel)
    have hm := HMM.out
    rw [hm] at HSM ⊢
    clear hal hnr hb32 HAL H31 HN31 hm
    go_wp2_with fail
    refine HSM.out.mono ?_
    rintro _ w33 ⟨rfl, hb33⟩
    have HFF := Lib.hid (bel_step HFE.out hb33)
    clear hb33
    go_wp2_with fail
    go_ret
    exact ⟨rfl, HFF.out⟩

set_option maxRecDepth 100000 in
theorem lifted (os : Os) (started : os.Started) (H : Type) (enc : TypeId × Value → H) :
    ReturnsInHanded {} Tryz.checked os 8 .any (Rows.mergeOpaqueSpec.pre6 enc Tryz.prog Tryz.f8 Rows.mergeOpaqueRow.domain false) (Rows.mergeOpaqueSpec.post enc Tryz.prog Tryz.f8 false true false false) := by
  refine returnsInHanded_of_change_sized (C := Tryz.checked) own started (by kernel_rfl) Tryz.func8
    (ChangeSpec.witness6 (enc := enc) (C := Tryz.checked) false ⟨#[], #[.slice none 0 0, .string ByteArray.empty], []⟩ 8 (by kernel_rfl) (by kernel_rfl) (by kernel_rfl) (by kernel_rfl)) ?_
  intro W base args ds gs before hval0 hW hcnd hsz _
  have hval : ∀ (j : Nat) t v, Tryz.f8.params[j]? = some t → args[j]? = some v → Value.okWide Tryz.prog W .any base t v := hval0
  have hW' := hW
  obtain ⟨p, q, hA0, hV, rfl, hfz, hnd⟩ := hW
  have hA : DataW.TrodAll enc Tryz.prog W 0 (fun _ => true) true Tryz.f8.params.toList args.toList ds p := hA0
  rw [Tryz.params8] at hA hval
  obtain ⟨v0, vs0, d0, ds0, p0, q0, hargs, rfl, rfl, h0, r0⟩ := trodAll_cons hA
  obtain ⟨v1, vs1, d1, ds1, p1, q1, rfl, rfl, rfl, h1, r1⟩ := trodAll_cons r0
  obtain ⟨rfl, rfl, rfl⟩ := trodAll_nil r1
  obtain rfl : args = #[v0, v1] := by cases args; simp_all
  obtain ⟨rfl, rfl⟩ := trodVars_none hV
  have hlt := fun x hx => hW'.lt x hx
  have t0 := h0
  obtain ⟨A0, n0, c0, x0, rfl, e0, s0⟩ := cb.open_acts (hval 0 22 v0 rfl rfl) h0
  obtain ⟨a1, rfl, rfl, rfl, w1⟩ := open_string Tryz.underlying9 (hval 1 9 v1 rfl rfl) h1
  have b1 : a1.size ≤ 140737488351232 := by
    have := sized_string hsz (j := 1) (t := 9) rfl rfl
    simpa [reachBytes] using this
  clear hA0 hval0
  refine (walk A0 n0 c0 x0 a1 W e0 s0 b1).mono fun e W' ⟨he, hg⟩ => ?_
  subst he
  exact ⟨_, rfl, cb.law_post (pv := []) hW' (fun _ _ _ => (trodAll_cons_mk (shut_bool Tryz.underlying4 _) trodAll_mk0)) (fun sp hsp => (trodAll_cons_mk (cb.arg_stays t0 hg (by simp +contextual) hlt hsp laid) (trodAll_cons_mk (shut_string Tryz.underlying9 w1) trodAll_mk0))) (fun _ _ => rfl) (by simp)
    hg (ok_one (by kernel_rfl) rfl (okWide_bool_mk Tryz.underlying4 _))⟩

theorem over : Rows.mergeOpaqueRow.holds Tryz.pinned (OpenSpec.ofChange Rows.mergeOpaqueSpec) :=
  OpenClaim.holds_of_wide 8 Tryz.f8 rfl rfl rfl rfl rfl rfl rfl ⟨rfl, rfl, rfl, rfl, rfl⟩ rfl rfl rfl rfl rfl (by kernel_rfl) Tryz.func8 (by kernel_rfl)
    (of_decide_eq_true (by kernel_rfl)) (by unfold Func.isWrapper; first | (rw [if_pos (by decide +kernel)]; kernel_rfl) | (rw [if_neg (by decide +kernel)]; exact ⟨rfl, rfl⟩))
    (fun os started H enc _ => lifted os started H enc)

/-- The statement. -/
theorem proved : Rows.MergeOpaqueSaid :=
  over
end Go.Proofs.YtkbdmjcdhkdanaaGreat.mergeOpaque
