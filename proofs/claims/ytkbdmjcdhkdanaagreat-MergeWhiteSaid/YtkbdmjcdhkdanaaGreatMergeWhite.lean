/- For every list of acts and every name the law MergeWhite returns true, and what is handed in reads as it did; there are no conditions. -/
import Derived.Test.YtkbdmjcdhkdanaaGreatRows
import Derived.Test.YtkbdmjcdhkdanaaGreatZ37
import Derived.Test.YtkbdmjcdhkdanaaGreatZ19
import Derived.Deep.RegionWith
import Derived.Deep.LoopGhost
import Derived.StillTailTactics
import Derived.Deep.QuietTactic
import Derived.BigQuiet
import Derived.ProofKit
import Derived.OpenShut
import Derived.ShutString
import Derived.SizedLaws
namespace Go.Proofs.YtkbdmjcdhkdanaaGreat.mergeWhite
open Go.ChangeShapes Go.WideShapes Go.ChangeAt Go.RowKit
open Go.ChangeMaps (open_string shut_string)
open Go.Proofs.YtkbdmjcdhkdanaaGreat.mg
set_option linter.unusedVariables false
set_option linter.unusedSimpArgs false

theorem own : ownKnob Tryz.prog.godebug = none := by kernel_rfl
theorem laid : laidOutB Tryz.prog = true := by kernel_rfl

open Go.Proofs.YtkbdmjcdhkdanaaGreat.br (BS Ino Inv fresh)
open Go.Proofs.YtkbdmjcdhkdanaaGreat.cb (BrX RetW RetI No Act7 Acts Bt BuildE build_any)
open Go.Proofs.YtkbdmjcdhkdanaaGreat.bl (Pq Only)
/-- The pair, the view and the branches; the upper branch is S. -/
structure Ut (w0 w : World) (G V : Nat) (p : cb.Pt) (S U L : BS) (T : Nat) (X : Nat → Prop) : Prop where
  q : cb.Q4 w0 w p S L U L T 80 X
  g : X G
  v : X V
  c0 : w.cell? ⟨G, 0, none⟩ = some (Pq p.P1)
  c1 : w.cell? ⟨G, 1, none⟩ = some (Pq p.P2)
  vx : Vx w V p.P1 p.P2 1 1 S L
section
variable {w0 w w' : World} {G V T : Nat} {p : cb.Pt} {S U L : BS} {X : Nat → Prop}
theorem Ut.below (h : Ut w0 w G V p S U L T X) (hb : Below w.heap.size w w') : Ut w0 w' G V p S U L T X :=
  ⟨h.q.below hb, h.g, h.v, (hb.cell (p := ⟨G, 0, none⟩) (h.q.lt h.g)).trans h.c0, (hb.cell (p := ⟨G, 1, none⟩) (h.q.lt h.g)).trans h.c1, h.vx.below hb⟩
theorem Ut.grow (h : Ut w0 w G V p S U L T X) (hb : Below w.heap.size w w') : ∃ Y : Nat → Prop, (∀ b, X b → Y b) ∧ (∀ b, w.heap.size ≤ b → b < w'.heap.size → Y b) ∧ Ut w0 w' G V p S U L T Y :=
  have h' := h.below hb
  ⟨fun b => X b ∨ (w.heap.size ≤ b ∧ b < w'.heap.size), fun _ h => .inl h, fun _ h1 h2 => .inr ⟨h1, h2⟩, h.q.box hb fun _ hx => hx, .inl h.g, .inl h.v, h'.c0, h'.c1, h'.vx⟩
theorem Ut.new (h : Bt w0 w G p U L) : Calls Tryz.prog 13 #[Pq p.P1, Pq p.P2, .int .i64 1, .int .i64 1] w (fun e w' => ∃ V X, e = .returned (Pq V) ∧ Ut w0 w' G V p U U L 80 X ∧ Below w.heap.size w w') :=
  (new_any p.P1 p.P2 1 1 w).mono fun e w' ⟨he, hw⟩ => by
    have hb : Below w.heap.size w w' := by rw [hw]; exact bel_alloc _ _
    have hT := Bt.below h hb
    exact ⟨w.heap.size, fun b => b = G ∨ (w.heap.size ≤ b ∧ b < w'.heap.size), he, ⟨h.q.box hb fun _ hx => hx, .inl rfl, .inr ⟨Nat.le_refl _, by rw [hw, World.size_alloc]; exact Nat.lt_succ_self _⟩, hT.c0, hT.c1, by rw [hw]; exact Bt.made h 1 1⟩, hb⟩
theorem Ut.turn {S' : BS} {T' : Nat} (h : Ut w0 w G V p S U L T X) (hq : cb.Q4 w0 w' p S' L U L T' 80 X) (hs : cb.Same X w w') : Ut w0 w' G V p S' U L T' X :=
  ⟨hq, h.g, h.v, (World.cell?_of_block (a := ⟨G, 0, none⟩) (hs G h.g)).trans h.c0, (World.cell?_of_block (a := ⟨G, 1, none⟩) (hs G h.g)).trans h.c1,
    ⟨(World.cell?_of_block (a := ⟨V, 0, none⟩) (hs V h.v)).trans h.vx.c0, (World.cell?_of_block (a := ⟨V, 1, none⟩) (hs V h.v)).trans h.vx.c1, (World.cell?_of_block (a := ⟨V, 2, none⟩) (hs V h.v)).trans h.vx.c2, (World.cell?_of_block (a := ⟨V, 3, none⟩) (hs V h.v)).trans h.vx.c3, ⟨_, _, _, hq.brx1⟩, ⟨_, _, _, hq.brx2⟩⟩⟩
theorem Ut.mark (h : Ut w0 w G V p S U L T X) (hT : T ≤ 1000) (i m : Int) : Calls Tryz.prog 36 #[Pq p.P1, .int .i64 i, .int .i64 m] w (fun e w' => e = .returned (.int .i64 (S.mark i m).1) ∧ Ut w0 w' G V p (S.mark i m).2 U L (T + 1) X ∧ cb.Same X w w') :=
  (h.q.code1 (S' := (S.mark i m).2) fun O k => cb.kb_mark k hT i m).mono fun e w' ⟨h1, h2, h3⟩ => ⟨h1, h.turn h2 h3, h3⟩
theorem Ut.make (h : Ut w0 w G V p S U L T X) (hT : T ≤ 1000) (d : Int) (s : ByteArray) (k : Int) (t : ByteArray) (hm : s.size ≤ 9223372036854775807) (hmt : t.size ≤ 9223372036854775807) : Calls Tryz.prog 34 #[Pq p.P1, .int .i64 d, .string s, .int .i64 k, .string t] w (fun e w' => e = .returned (.tuple #[.int .i64 (S.make d s k t).1.1, .int .i64 (S.make d s k t).1.2]) ∧ Ut w0 w' G V p (S.make d s k t).2 U L (T + 1) X ∧ cb.Same X w w') :=
  (h.q.code1 (S' := (S.make d s k t).2) fun O kb => cb.kb_make kb hT d s k t hm hmt).mono fun e w' ⟨h1, h2, h3⟩ => ⟨h1, h.turn h2 h3, h3⟩
theorem Ut.unlink (h : Ut w0 w G V p S U L T X) (hT : T ≤ 1000) (d : Int) (s : ByteArray) : Calls Tryz.prog 35 #[Pq p.P1, .int .i64 d, .string s] w (fun e w' => e = .returned (.int .i64 (S.unlink d s).1) ∧ Ut w0 w' G V p (S.unlink d s).2 U L (T + 1) X ∧ cb.Same X w w') :=
  (h.q.code1 (S' := (S.unlink d s).2) fun O kb => cb.kb_unlink kb hT d s).mono fun e w' ⟨h1, h2, h3⟩ => ⟨h1, h.turn h2 h3, h3⟩
theorem Ut.get (h : Ut w0 w G V p S U L T X) (i : Int) (s : ByteArray) : Calls Tryz.prog 31 #[Pq p.P1, .int .i64 i, .string s] w (fun e w' => e = .returned (.tuple #[.int .i64 (S.get i s).1, .int .i64 (S.get i s).2]) ∧ Below w.heap.size w w') := cb.x_get h.q.brx1 i s
theorem Ut.kind (h : Ut w0 w G V p S U L T X) (i : Int) : Calls Tryz.prog 32 #[Pq p.P1, .int .i64 i] w (fun e w' => e = .returned (.int .i64 (S.kindOf i)) ∧ Below w.heap.size w w') := cb.x_kind h.q.brx1 i
theorem Ut.marks (h : Ut w0 w G V p S U L T X) (i : Int) : Calls Tryz.prog 33 #[Pq p.P1, .int .i64 i] w (fun e w' => e = .returned (.int .i64 (S.marksOf i)) ∧ Below w.heap.size w w') := cb.x_marks h.q.brx1 i
theorem Ut.inv1 (h : Ut w0 w G V p S U L T X) : Inv S 500 := h.q.good1.1
theorem Ut.inv2 (h : Ut w0 w G V p S U L T X) : Inv L 500 := h.q.good2.1
theorem Ut.all (h : Ut w0 w G V p S U L T X) (n : Nd) : Calls Tryz.prog 20 #[Pq V, Nv n] w (AllE w S L n) := all_any h.vx h.inv1 h.inv2 n
end
/-- Names in a row of protected blocks. -/
def NX (w : World) (X : Nat → Prop) (A : Option Addr) (l : List ByteArray) : Prop := ∀ k x, l[k]? = some x → ∃ G, A = some ⟨G, 0, none⟩ ∧ X G ∧ w.cell? ⟨G, k, none⟩ = some (.string x)
theorem NX.of {w : World} {lo : Nat} {X : Nat → Prop} {A : Option Addr} {l : List ByteArray} (h : NR w lo A l) (hX : ∀ b, lo ≤ b → b < w.heap.size → X b) : NX w X A l := fun k x hx => by
  obtain ⟨G, e, h1, h2, h3, _⟩ := h k x hx
  exact ⟨G, e, hX G h1 h2, h3⟩
theorem NX.same {w w' : World} {X : Nat → Prop} {A : Option Addr} {l : List ByteArray} (h : NX w X A l) (hs : cb.Same X w w') : NX w' X A l := fun k x hx => by
  obtain ⟨G, e, h1, h2⟩ := h k x hx
  exact ⟨G, e, h1, (World.cell?_of_block (a := ⟨G, k, none⟩) (hs G h1)).trans h2⟩
theorem NX.below {w w' : World} {X : Nat → Prop} {A : Option Addr} {l : List ByteArray} (h : NX w X A l) (hb : Below w.heap.size w w') : NX w' X A l := fun k x hx => by
  obtain ⟨G, e, h1, h2⟩ := h k x hx
  exact ⟨G, e, h1, (hb.cell (p := ⟨G, k, none⟩) (World.block_lt_of_cell? _ _ h2)).trans h2⟩
theorem NX.grow {w : World} {X Y : Nat → Prop} {A : Option Addr} {l : List ByteArray} (h : NX w X A l) (hY : ∀ b, X b → Y b) : NX w Y A l := fun k x hx => by
  obtain ⟨G, e, h1, h2⟩ := h k x hx
  exact ⟨G, e, hY G h1, h2⟩
theorem NX.ns {w : World} {X : Nat → Prop} {A : Option Addr} {l : List ByteArray} (h : NX w X A l) : NS w A l := fun k x hx => by
  obtain ⟨G, e, _, h2⟩ := h k x hx
  exact ⟨G, e, h2⟩
theorem make_same {S : BS} {d : Int} {s t : ByteArray} {k : Int} (h : (S.make d s k t).1.2 ≠ 0) : (S.make d s k t).2 = S := by
  unfold br.BS.make at *
  split
  · rfl
  · rename_i h1
    rw [if_neg h1] at h
    split
    · rfl
    · rename_i h2
      rw [if_neg h2] at h
      dsimp only at *
      split
      · rfl
      · rename_i h3
        rw [if_neg h3] at h
        exact absurd rfl h
theorem made_kept {U S : BS} {D n : Nat} {s : ByteArray} (hM : cb.MadeI U S D n s 4) {i : Int} (h : U.kindOf i ≠ 0) : S.kindOf i = U.kindOf i ∧ S.marksOf i = U.marksOf i := by
  have hi : U.isI i = true := by
    cases e : U.isI i
    · unfold br.BS.kindOf at h; rw [e] at h; exact absurd rfl h
    · rfl
  obtain ⟨I, rfl, i1, i2, hz⟩ := br.isI_yes hi
  have hn : I ≠ n := fun e => hz (by rw [e]; exact hM.hz)
  have key : (S.ino I).kind = (U.ino I).kind ∧ (S.ino I).marks = (U.ino I).marks := by
    by_cases hD : I = D
    · subst hD; rw [hM.eD]; exact ⟨rfl, rfl⟩
    · rw [hM.oth I hD hn]; exact ⟨rfl, rfl⟩
  have hi2 : S.isI (I : Int) = true := by
    unfold br.BS.isI br.BS.at at *
    rw [Int.toNat_natCast] at *
    rw [key.1]; exact hi
  unfold br.BS.kindOf br.BS.marksOf
  rw [hi, hi2]
  unfold br.BS.at
  rw [Int.toNat_natCast, key.1, key.2]
  exact ⟨rfl, rfl⟩
theorem made_get {U S : BS} {n : Nat} {s x : ByteArray} (hU : Inv U 500) (hM : cb.MadeI U S 1 n s 4) (hx : x ≠ s) : S.get 1 x = U.get 1 x := by
  have hk : (S.ino 1).kind = (U.ino 1).kind := by rw [hM.eD]
  have hd : S.dirE 1 false = U.dirE 1 false := by
    unfold br.BS.dirE br.BS.isI br.BS.at
    rw [show (1 : Int).toNat = 1 from rfl, hk]
    simp
  unfold br.BS.get
  rw [hd]
  unfold br.BS.at
  rw [show (1 : Int).toNat = 1 from rfl, hM.eD]
  dsimp only
  rw [br.lget_lset_other (hU.sorted 1) hx]
theorem white_now {U S L : BS} (hG : br.Good U 500) (hS : Inv S 500) (hL : Inv L 500) {n : Nat} {s : ByteArray} (hM : cb.MadeI U S 1 n s 4) {l k : List ByteArray} (h1 : AllV U L (rootV U L 1 1) l) (h2 : AllV S L (rootV S L 1 1) k) : k = l.filter (fun x => !decide (x = s)) := by
  have hU := hG.1
  refine rise_ext h2.rise (h1.rise.filter _) fun x => ?_
  rw [h2.mem, List.mem_filter, h1.mem]
  by_cases hx : x = s
  · subst hx
    have hl := (hM.lead hG).2.1
    have hk : S.kindOf (n : Int) = 4 := by
      have hi : S.isI (n : Int) = true := by
        unfold br.BS.isI br.BS.at
        rw [Int.toNat_natCast, hM.eN.1]
        have := hM.n1; have := hM.n2
        simp; omega
      unfold br.BS.kindOf
      rw [if_pos hi]
      unfold br.BS.at
      rw [Int.toNat_natCast]
      exact hM.eN.1
    have hl1 : S.get 1 x = ((n : Int), 0) := hl
    rw [hides_white hS hL x (by rw [hl1]) (by rw [hl1]; exact hk)]
    simp
  · have hg := made_get hU hM hx
    have hr : opq S 1 = opq U 1 := by unfold opq; rw [(made_kept hM (i := 1) (by rw [root_kind hU]; decide)).2]
    have hc : getV S L (rootV S L 1 1) x = getV U L (rootV U L 1 1) x := by
      by_cases hz : (U.get 1 x).1 = 0
      · refine get_cong hS hU hL x hg ?_ ?_ hr
        · rw [hz, kind_zero, kind_zero]
        · rw [hz]; unfold opq br.BS.marksOf br.BS.isI; simp
      · have hk := made_kept hM (fun e => hz ((get_kind hU 1 x).1 e))
        exact get_cong hS hU hL x hg hk.1 (by unfold opq; rw [hk.2]) hr
    rw [hc]
    simp [hx]
theorem filter_take {l : List ByteArray} {j : Nat} {x : ByteArray} (f : ByteArray → Bool) (h : l[j]? = some x) : (l.take (j + 1)).filter f = (l.take j).filter f ++ if f x then [x] else [] := by
  rw [List.take_add_one, h, List.filter_append]
  cases hf : f x <;> simp [hf]
theorem Ow.empty {w : World} {B : Nat} (h : B ≤ w.heap.size) : Ow (w.alloc (.cells #[] 9)) B (.slice (some ⟨w.heap.size, 0, none⟩) 0 0) [] :=
  ⟨rfl, .inr ⟨w.heap.size, 0, #[], rfl, h, by show (w.heap.push (.cells #[] 9))[w.heap.size]? = _; exact Array.getElem?_push_size, Nat.le_refl _, by unfold maxLen; omega, rfl, rfl⟩⟩
set_option maxRecDepth 100000 in
set_option maxHeartbeats 8000000 in
theorem walk (A : Option Addr) (n c : Nat) (F : Nat → Act7) (s : ByteArray) (w : World) (k1 : n ≤ c ∧ c ≤ maxLen) (hF : Acts w w.heap.size A n F) (ws : s.size ≤ 140737488351232) :
    Calls Tryz.prog 7 #[.slice A n c, .string s] w (AwakeE w) := by
  have hnm : n ≤ maxLen := Nat.le_trans k1.1 k1.2
  have HB0 := Lib.hid (Below.refl w.heap.size w)
  have HBD := Lib.hid (fun w1 (hb : Below w.heap.size w w1) => build_any A n c F w w1 hnm hF hb)
  clear k1 hF hnm
  go_enter Tryz.func7, Tryz.ntmps7
  go_wp2_with fail
  refine (awake_any _).mono ?_
  rintro _ w1 ⟨rfl, hb1⟩
  have HB1 := Lib.hid (HBD.out _ hb1)
  clear hb1 HBD
  go_wp2_with fail
  refine HB1.out.mono ?_
  rintro _ w2 h2
  clear HB1
  rcases h2 with ⟨v, rfl, h2⟩ | ⟨G, p, U, L, rfl, h2⟩
  · have HE := Lib.hid (bel_step HB0.out h2)
    clear h2
    go_wp2_with fail
    go_ret
    exact ⟨rfl, HE.out⟩
  have H2 := Lib.hid h2
  clear h2
  obtain ⟨-, c0, c1, -, -⟩ := H2.out
  go_wp2_with fail
  go_region_held3 (fun w' => w'.cell? ⟨G, 0, none⟩ = some (Pq p.P1) ∧ w'.cell? ⟨G, 1, none⟩ = some (Pq p.P2))
    (first | exact ⟨c0, c1⟩ | exact S8 | assumption | go_keep)
    (first | (go_at_call 13; ((with_reducible refine (Ut.new (Bt.below H2.out (Below.refl w2.heap.size w2).drew)).mono ?_); rintro _ wv ⟨V, X0, rfl, hv3, hb3⟩; have HV := Lib.hid hv3; have S8 := And.intro HV.out.c0 HV.out.c1)))
  all_goals
    clear c0 c1 S8 hv3 hb3 H2
    have HI := Lib.hid (And.intro HV.out.q.good1 HV.out.inv2)
    obtain ⟨rt, hrt⟩ : ∃ r, rootV U L 1 1 = r := ⟨_, rfl⟩
    have HRT := Lib.hid (root_any HV.out.vx)
    unfold RetW at HRT
    rw [hrt] at HRT
    have HRE := Lib.hid hrt
    go_wp2_with fail
    refine HRT.out.mono ?_
    rintro _ w4 ⟨rfl, hb4⟩
    have H4 := Lib.hid (HV.out.below hb4)
    clear hb4 HRT HV hrt
    have HAL := Lib.hid (H4.out.all rt)
    unfold AllE at HAL
    go_wp2_with fail
    refine HAL.out.mono ?_
    rintro _ w5 ⟨A1, ca, l, rfl, hal, hnr, hl1, hl2, hl3, hb5⟩
    obtain ⟨X, hX1, hX2, h5⟩ := H4.out.grow hb5
    have H5 := Lib.hid h5
    have HN5 := Lib.hid (NX.of hnr hX2)
    have HAV := Lib.hid hal
    clear hal hnr hb5 hX1 hX2 h5 H4 HAL
    have HM1 := Lib.hid (H5.out.make (by decide) 1 s 4 ⟨#[]⟩ (by omega) (by decide))
    have HMS := Lib.hid (make_same (S := U) (d := 1) (s := s) (t := ⟨#[]⟩) (k := 4))
    have HMD := Lib.hid (show (U.make 1 s 4 ⟨#[]⟩).1.2 = 0 → ∃ n : Nat, cb.MadeI U (U.make 1 s 4 ⟨#[]⟩).2 1 n s 4 from fun e => by
      obtain ⟨D, n, hD, _, h, _⟩ := cb.made_of HI.out.1 e
      obtain rfl : D = 1 := by omega
      exact ⟨n, h⟩)
    generalize U.make 1 s 4 ⟨#[]⟩ = mk at *
    obtain ⟨⟨ma, me⟩, S⟩ := mk
    dsimp only at HM1 HMS HMD
    obtain ⟨c0, c1⟩ := And.intro H5.out.c0 H5.out.c1
    obtain ⟨m, hm⟩ : ∃ m, l.length = m := ⟨_, rfl⟩
    have HMM := Lib.hid hm
    rw [hm]
    rw [hm] at hl1 hl3
    clear hm
    go_wp2_with fail
    refine HM1.out.mono ?_
    rintro _ w6 ⟨rfl, h6, hs6⟩
    have H6 := Lib.hid h6
    have HN6 := Lib.hid (HN5.out.same hs6)
    clear h6 hs6 c0 c1 HM1 HN5 H5
    by_cases hme : me = 0
    case neg =>
      have q0 : (me != 0) = true := by simpa using hme
      obtain rfl : S = U := HMS.out hme
      clear hme HMS HMD
      have HRT2 := Lib.hid (root_any H6.out.vx)
      unfold RetW at HRT2
      rw [HRE.out] at HRT2
      go_wp2_with fail
      refine HRT2.out.mono ?_
      rintro _ w31 ⟨rfl, hb31⟩
      have H31 := Lib.hid (H6.out.below hb31)
      have HN31 := Lib.hid (HN6.out.below hb31)
      clear hb31 HRT2 H6 HN6
      have HAL := Lib.hid (H31.out.all rt)
      unfold AllE at HAL
      go_wp2_with fail
      refine HAL.out.mono ?_
      rintro _ w32 ⟨A2, cb, l2, rfl, hal, hnr, hk1, hk2, hk3, hb32⟩
      obtain rfl : l = l2 := HAV.out.same hal
      have HSM := Lib.hid (same_any (HN31.out.below hb32).ns hnr.ns (by rw [HMM.out]; exact hl1) hl2 hk1 hk2)
      rw [decide_eq_true rfl] at HSM
      have HFE := Lib.hid (bel_step HB0.out (H31.out.below hb32).q.bel)
      have hm := HMM.out
      rw [hm] at HSM ⊢
      clear hal hnr hb32 HAL H31 HN31 hm
      go_wp2_with fail
      refine HSM.out.mono ?_
      rintro _ w33 ⟨rfl, hb33⟩
      have HFF := Lib.hid (bel_step HFE.out hb33)
      clear hb33
      go_wp2_with fail
      go_ret
      exact ⟨rfl, HFF.out⟩
    subst hme
    obtain ⟨n1, hM⟩ := HMD.out (by first | rfl | trivial)
    have HM := Lib.hid hM
    have HUN := Lib.hid (show (S.unlink 1 s).2 = U from by rw [show S.unlink 1 s = (0, U) from cb.back_file HI.out.1 hM (by decide)])
    have HWN := Lib.hid (show ∀ k, AllV S L (rootV S L 1 1) k → k = l.filter (fun x => !decide (x = s)) from fun k h => white_now HI.out.1 H6.out.inv1 HI.out.2 hM (by rw [HRE.out]; exact HAV.out) h)
    clear hM HMS HMD
    obtain ⟨r2, hr2⟩ : ∃ r, rootV S L 1 1 = r := ⟨_, rfl⟩
    have HRT := Lib.hid (root_any H6.out.vx)
    unfold RetW at HRT
    rw [hr2] at HRT HWN
    clear hr2
    go_wp2_with fail
    refine HRT.out.mono ?_
    rintro _ w7 ⟨rfl, hb7⟩
    have H7 := Lib.hid (H6.out.below hb7)
    have HN7 := Lib.hid (HN6.out.below hb7)
    clear hb7 HRT H6 HN6
    have HAL := Lib.hid (H7.out.all r2)
    unfold AllE at HAL
    go_wp2_with fail
    refine HAL.out.mono ?_
    rintro _ w8 ⟨A2, cb, k, rfl, hal, hnr, hk1, hk2, hk3, hb8⟩
    have H8 := Lib.hid (H7.out.below hb8)
    have HN8 := Lib.hid (HN7.out.below hb8)
    have HK8 := Lib.hid hnr.ns
    have HKE := Lib.hid (HWN.out _ hal)
    obtain ⟨mk, hmk⟩ : ∃ m, k.length = m := ⟨_, rfl⟩
    have HMK := Lib.hid hmk
    rw [hmk]
    rw [hmk] at hk1 hk3
    clear hal hnr hb8 HAL H7 HN7 HWN hmk
    have HGL := Lib.hid (show ∀ j, j < m → ∃ x, l[j]? = some x from fun j hj => ⟨l[j]'(by have := HMM.out; omega), List.getElem?_eq_getElem _⟩)
    obtain ⟨w9, hw9⟩ : ∃ w, w8.alloc (.cells #[] 9) = w := ⟨_, rfl⟩
    have HW9 := Lib.hid (show Below w8.heap.size w8 w9 by rw [← hw9]; exact bel_alloc _ _)
    have HO9 := Lib.hid (show Ow w9 w8.heap.size (.slice (some ⟨w8.heap.size, 0, none⟩) 0 0) [] by rw [← hw9]; exact Ow.empty (Nat.le_refl _))
    go_upto_region 15 with fail
    go_loopg [16, 76] m (fun g s16 s76 wr => ∃ (j : Nat) (v : Value) (r : List ByteArray), g + j = m ∧ s76 = .int .i64 j ∧ v = s16 ∧ Hid (r = (l.take j).filter (fun x => !decide (x = s))) ∧ Hid (Ow wr w8.heap.size v r) ∧ Hid (Below w8.heap.size w8 wr))
    case atStart => exact ⟨0, _, [], by omega, rfl, rfl, Lib.hid rfl, HO9, HW9⟩
    case round =>
      clear HO9 HW9
      obtain ⟨j, v, r, hgj, rfl, hv16, HRF, HO, HW⟩ := hrel
      subst hv16
      by_cases hj : j < m
      · obtain ⟨x, hx⟩ := HGL.out j hj
        have HFT := Lib.hid (filter_take (fun x => !decide (x = s)) hx)
        have HNW := Lib.hid (HN8.out.below HW.out)
        obtain ⟨G', rfl, e1⟩ := HNW.out.ns j x hx
        have HRL := Lib.hid (show r.length ≤ 8000 from by rw [HRF.out]; have h1 := List.length_filter_le (fun x => !decide (x = s)) (l.take j); have h2 := List.length_take_le j l; omega)
        clear hx
        by_cases hxs : x = s
        · have hq : (x.toList == s.toList) = true := by rw [dn.beq_names, decide_eq_true hxs]
          have HR2 := Lib.hid (show r = (l.take (j + 1)).filter (fun x => !decide (x = s)) from by rw [HFT.out, HRF.out, if_neg (by simp [hxs]), List.append_nil])
          clear hxs HFT HRF
          go_wp2_with fail
          go_roundg (gk - 1)
          case measure => omega
          case rel => exact ⟨j + 1, _, r, by omega, by go_num, rfl, HR2, HO, HW⟩
        · have hq : (x.toList == s.toList) = false := by rw [dn.beq_names, decide_eq_false hxs]
          have HR2 := Lib.hid (show r ++ [x] = (l.take (j + 1)).filter (fun x => !decide (x = s)) from by rw [HFT.out, HRF.out, if_pos (by simp [hxs])])
          obtain ⟨i0, hi, hz0, hz1, hz2⟩ := info_parts9
          have HOW := Lib.hid (fun ob => HO.out.below (bel_alloc wr ob))
          have HWW := Lib.hid (fun ob => bel_step HW.out (bel_alloc wr ob))
          clear hxs HFT HRF
          go_wp2_with (first | (at_builtin; go_must (refine wpList_append_own _ rfl (.tmp 85) (.tmp 90) 43 rfl w8.heap.size 9 i0 _ 1 16 Tryz.underlying43 hi hz0 hz1 hz2 rfl (by decide) v r.length (r.map Value.string) rfl (HOW.out _) ⟨wr.heap.size, 0, none⟩ 1 1 [.string x] rfl rfl (cell_one_new _ _ _) (by intro u hu; simp at hu; subst hu; rfl) (by have := HRL.out; unfold maxLen; omega) (by have := HRL.out; omega) (HWW.out _).size ?_; intro v' w12 hown hg9 _; have HO12 := Lib.hid (Ow.of hown); have HW12 := Lib.hid (grown_bel (HWW.out _) hg9 (fun k e => (HOW.out (.cells #[] 0)).row k e)); clear hown hg9)) | fail)
          go_roundg (gk - 1)
          case measure => omega
          case rel => exact ⟨j + 1, _, r ++ [x], by omega, by go_num, rfl, HR2, HO12, HW12⟩
      obtain rfl : j = m := by omega
      have hrk : r = k := by rw [HRF.out, HKE.out, List.take_of_length_le (by rw [HMM.out]; exact Nat.le_refl _)]
      subst hrk
      obtain ⟨A3, cc, hv, hr1, hr2, HNR⟩ := HO.out.form
      subst hv
      have HSM := Lib.hid (same_any (HK8.out.below HW.out) HNR.ns (by rw [HMK.out]; exact hk1) hk2 hr1 hr2)
      rw [decide_eq_true rfl] at HSM
      have hmk := HMK.out
      rw [hmk] at HSM ⊢
      have H9 := Lib.hid (H8.out.below HW.out)
      have HN9 := Lib.hid (HN8.out.below HW.out)
      clear HNR HO HRF HKE HW hmk hr1 hr2 H8 HN8 HK8
      go_wp2_with fail
      refine HSM.out.mono ?_
      rintro _ w13 ⟨rfl, hb13⟩
      have H13 := Lib.hid (H9.out.below hb13)
      have HN13 := Lib.hid (HN9.out.below hb13)
      clear hb13 HSM H9 HN9
      have HUL := Lib.hid (H13.out.unlink (by decide) 1 s)
      rw [HUN.out] at HUL
      obtain ⟨c0, c1⟩ := And.intro H13.out.c0 H13.out.c1
      go_wp2_with fail
      refine HUL.out.mono ?_
      rintro _ w14 ⟨rfl, h14, hs14⟩
      have H14 := Lib.hid h14
      have HN14 := Lib.hid (HN13.out.same hs14)
      clear h14 hs14 c0 c1 HUL H13 HN13
      have HRT2 := Lib.hid (root_any H14.out.vx)
      unfold RetW at HRT2
      rw [HRE.out] at HRT2
      go_wp2_with fail
      refine HRT2.out.mono ?_
      rintro _ w31 ⟨rfl, hb31⟩
      have H31 := Lib.hid (H14.out.below hb31)
      have HN31 := Lib.hid (HN14.out.below hb31)
      clear hb31 HRT2 H14 HN14
      have HAL := Lib.hid (H31.out.all rt)
      unfold AllE at HAL
      go_wp2_with fail
      refine HAL.out.mono ?_
      rintro _ w32 ⟨A2, cb, l2, rfl, hal, hnr, hz1, hz2, hz3, hb32⟩
      obtain rfl : l = l2 := HAV.out.same hal
      have HSM := Lib.hid (same_any hnr.ns (HN31.out.below hb32).ns hz1 hz2 (by rw [HMM.out]; exact hl1) hl2)
      rw [decide_eq_true rfl] at HSM
      have HFE := Lib.hid (bel_step HB0.out (H31.out.below hb32).q.bel)
      have hm := HMM.out
      rw [hm] at HSM ⊢
      clear hal hnr hb32 HAL H31 HN31 hm
      go_wp2_with fail
      refine HSM.out.mono ?_
      rintro _ w33 ⟨rfl, hb33⟩
      have HFF := Lib.hid (bel_step HFE.out hb33)
      clear hb33
      go_wp2_with fail
      go_ret
      exact ⟨rfl, HFF.out⟩

set_option maxRecDepth 100000 in
theorem lifted (os : Os) (started : os.Started) (H : Type) (enc : TypeId × Value → H) :
    ReturnsInHanded {} Tryz.checked os 7 .any (Rows.mergeWhiteSpec.pre6 enc Tryz.prog Tryz.f7 Rows.mergeWhiteRow.domain false) (Rows.mergeWhiteSpec.post enc Tryz.prog Tryz.f7 false true false false) := by
  refine returnsInHanded_of_change_sized (C := Tryz.checked) own started (by kernel_rfl) Tryz.func7
    (ChangeSpec.witness6 (enc := enc) (C := Tryz.checked) false ⟨#[], #[.slice none 0 0, .string ByteArray.empty], []⟩ 8 (by kernel_rfl) (by kernel_rfl) (by kernel_rfl) (by kernel_rfl)) ?_
  intro W base args ds gs before hval0 hW hcnd hsz _
  have hval : ∀ (j : Nat) t v, Tryz.f7.params[j]? = some t → args[j]? = some v → Value.okWide Tryz.prog W .any base t v := hval0
  have hW' := hW
  obtain ⟨p, q, hA0, hV, rfl, hfz, hnd⟩ := hW
  have hA : DataW.TrodAll enc Tryz.prog W 0 (fun _ => true) true Tryz.f7.params.toList args.toList ds p := hA0
  rw [Tryz.params7] at hA hval
  obtain ⟨v0, vs0, d0, ds0, p0, q0, hargs, rfl, rfl, h0, r0⟩ := trodAll_cons hA
  obtain ⟨v1, vs1, d1, ds1, p1, q1, rfl, rfl, rfl, h1, r1⟩ := trodAll_cons r0
  obtain ⟨rfl, rfl, rfl⟩ := trodAll_nil r1
  obtain rfl : args = #[v0, v1] := by cases args; simp_all
  obtain ⟨rfl, rfl⟩ := trodVars_none hV
  have hlt := fun x hx => hW'.lt x hx
  have t0 := h0
  obtain ⟨A0, n0, c0, x0, rfl, e0, s0⟩ := cb.open_acts (hval 0 22 v0 rfl rfl) h0
  obtain ⟨a1, rfl, rfl, rfl, w1⟩ := open_string Tryz.underlying9 (hval 1 9 v1 rfl rfl) h1
  have b1 : a1.size ≤ 140737488351232 := by
    have := sized_string hsz (j := 1) (t := 9) rfl rfl
    simpa [reachBytes] using this
  clear hA0 hval0
  refine (walk A0 n0 c0 x0 a1 W e0 s0 b1).mono fun e W' ⟨he, hg⟩ => ?_
  subst he
  exact ⟨_, rfl, cb.law_post (pv := []) hW' (fun _ _ _ => (trodAll_cons_mk (shut_bool Tryz.underlying4 _) trodAll_mk0)) (fun sp hsp => (trodAll_cons_mk (cb.arg_stays t0 hg (by simp +contextual) hlt hsp laid) (trodAll_cons_mk (shut_string Tryz.underlying9 w1) trodAll_mk0))) (fun _ _ => rfl) (by simp)
    hg (ok_one (by kernel_rfl) rfl (okWide_bool_mk Tryz.underlying4 _))⟩

theorem over : Rows.mergeWhiteRow.holds Tryz.pinned (OpenSpec.ofChange Rows.mergeWhiteSpec) :=
  OpenClaim.holds_of_wide 7 Tryz.f7 rfl rfl rfl rfl rfl rfl rfl ⟨rfl, rfl, rfl, rfl, rfl⟩ rfl rfl rfl rfl rfl (by kernel_rfl) Tryz.func7 (by kernel_rfl)
    (of_decide_eq_true (by kernel_rfl)) (by unfold Func.isWrapper; first | (rw [if_pos (by decide +kernel)]; kernel_rfl) | (rw [if_neg (by decide +kernel)]; exact ⟨rfl, rfl⟩))
    (fun os started H enc _ => lifted os started H enc)

/-- The statement. -/
theorem proved : Rows.MergeWhiteSaid :=
  over
end Go.Proofs.YtkbdmjcdhkdanaaGreat.mergeWhite
