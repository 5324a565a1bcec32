/- For every list of acts and every two texts the law WalkLinks returns true, and what is handed in reads as it did; there are no conditions. -/
import Derived.Test.YtlnlehoekchdeaaGreatZ46
import Derived.Deep.RegionWith
import Derived.Deep.QuietTactic
import Derived.BigQuiet
import Derived.ProofKit
import Derived.OpenShut
import Derived.ShutString
import Derived.SizedLaws
namespace Go.Proofs.YtlnlehoekchdeaaGreat.walkLinks
open Go.ChangeShapes Go.WideShapes Go.ChangeAt Go.RowKit
open Go.ChangeMaps (open_string shut_string)
open Go.Proofs.YtlnlehoekchdeaaGreat.cb
set_option linter.unusedVariables false

theorem own : ownKnob Tryz.prog.godebug = none := by kernel_rfl
theorem laid : laidOutB Tryz.prog = true := by kernel_rfl

open Go.Deep
open Go.Proofs.YtlnlehoekchdeaaGreat.br
open Go.Proofs.YtlnlehoekchdeaaGreat.bl (Pq)
theorem links_at {S : BS} {room : Nat} (hG : br.Good S room) (s nm : ByteArray) (hs : s.data.toList ≠ []) (hm : (S.make 1 nm 3 (⟨#[47]⟩ ++ s)).1.2 = 0) (hy : (atR (S.make 1 nm 3 (⟨#[47]⟩ ++ s)).2 (⟨#[47]⟩ ++ nm) true).2 ≠ 40) :
    atR (S.make 1 nm 3 (⟨#[47]⟩ ++ s)).2 (⟨#[47]⟩ ++ nm) true = atR (S.make 1 nm 3 (⟨#[47]⟩ ++ s)).2 s true ∨ (400 < s.size + 1 ∧ (atR (S.make 1 nm 3 (⟨#[47]⟩ ++ s)).2 (⟨#[47]⟩ ++ nm) true).2 = 36) := by
  obtain ⟨hn, i, g1, g2, g3, g4, _⟩ := made hG hm
  generalize (S.make 1 nm 3 (⟨#[47]⟩ ++ s)).2 = S2 at *
  rw [atR_front true hn] at hy ⊢
  have hL : wk.Lnk (trS S2) true 1 nm [] false := ⟨by show S2.kindOf (S2.get 1 nm).1 = 3; rw [g1]; exact g2, .inr (.inl rfl)⟩
  have ht : (trS S2).target ((trS S2).get 1 nm).1 = (⟨#[47]⟩ ++ s, 0) := by show S2.targetOf (S2.get 1 nm).1 = _; rw [g1]; exact g3
  rw [wk.w_link (X := trS S2) (m := 39) g4 hn.d2 hn.d1 (by show (S2.get 1 nm).2 = 0; rw [g1]) hL, ht] at hy ⊢
  dsimp only at hy ⊢
  rw [if_neg (wk.nn rfl)] at hy ⊢
  have hsz : s.size = s.data.toList.length := by simp
  by_cases hl : s.data.toList.length + 1 ≤ 400
  case neg =>
    right
    have h36 : wk.pe (⟨#[47]⟩ ++ s) = 36 := by
      unfold wk.pe pa.perr
      rw [front, if_neg (by simp), if_pos (by rw [List.length_cons]; omega)]
    rw [h36, if_pos (by decide)]
    exact ⟨by omega, rfl⟩
  rw [pe_front hs hl, pn_front hs hl, pd_front hs hl] at hy ⊢
  left
  unfold atR
  by_cases hp : wk.pe s = 0
  case neg => rw [if_pos hp, if_pos hp]
  have hpl : (wk.pn s).length ≤ 40 := by unfold wk.pn; rw [List.length_map]; exact pa.pnames_le _
  rw [if_neg (wk.nn hp), if_neg (by rw [List.length_nil]; omega)] at hy ⊢
  rw [if_neg (wk.nn hp)]
  have hsl : wk.slash (⟨#[47]⟩ ++ s) = true := by unfold wk.slash; rw [front]; rfl
  rw [hsl, if_pos rfl, if_pos rfl, List.append_nil, Bool.false_or] at hy ⊢
  exact (wk.walk_more (trS S2) true 39 1 (wk.pn s) (wk.pd s) hy).symm
set_option maxHeartbeats 4000000 in
set_option maxRecDepth 100000 in
theorem walk (A : Option Addr) (n c : Nat) (F : Nat → Act6) (s nm : ByteArray) (w : World) (k1 : n ≤ c ∧ c ≤ maxLen) (hF : Acts w w.heap.size A n F) (ws : s.size ≤ 140737488351232) (wn : nm.size ≤ 140737488351232) :
    Calls Tryz.prog 5 #[.slice A n c, .string s, .string nm] w (AwakeE w) := by
  have hnm : n ≤ maxLen := Nat.le_trans k1.1 k1.2
  have HBD := Lib.hid (fun w1 (hb : Below w.heap.size w w1) => bld_any A n c F w w1 hnm hF hb)
  clear k1 hF hnm
  go_enter Tryz.func5, Tryz.ntmps5
  go_wp2_with fail
  refine (awake_any _).mono ?_
  rintro _ w1 ⟨rfl, hb1⟩
  have HB1 := Lib.hid (HBD.out _ hb1)
  clear hb1 HBD
  go_wp2_with fail
  refine HB1.out.mono ?_
  rintro _ w2 ⟨ok, P, D, S, rfl, h2⟩
  have H2 := Lib.hid h2
  clear h2 HB1
  cases ok with
  | false =>
    go_wp2_with fail
    go_ret
    exact ⟨rfl, H2.out.bel⟩
  | true =>
    have z2 : (⟨#[47]⟩ : ByteArray).size = 1 := rfl
    have l1 : (1 : Int) + (s.size : Int) ≤ 9223372036854775807 := by omega
    have l2 : 1 + s.size + 1 ≤ 9223372036854775807 := by omega
    have l3 : (⟨#[47]⟩ ++ s).size + 1 ≤ 9223372036854775807 := by rw [ByteArray.size_append, z2]; omega
    have m2 : 1 + nm.size + 1 ≤ 9223372036854775807 := by omega
    have m3 : (⟨#[47]⟩ ++ nm).size + 1 ≤ 9223372036854775807 := by rw [ByteArray.size_append, z2]; omega
    have A1 := Lib.hid (atw_any H2.out.ctr s true)
    have HAT0 := Lib.hid (show s.data.toList = [] → atR S s true = (wk.r0, 2) from fun e => by
      have hp : wk.pe s = 2 := by unfold wk.pe pa.perr; rw [if_pos e]
      unfold atR; rw [hp, if_pos (by decide)])
    obtain ⟨R1, hR1⟩ : ∃ R, atR S s true = R := ⟨_, rfl⟩
    rw [hR1] at A1 HAT0
    clear hR1
    obtain ⟨⟨xa, xn, xi⟩, xe⟩ := R1
    unfold TopE FoundV at A1
    dsimp only at A1
    have hg := guard32
    have hne32 : ∀ (x y : Fo) W, (binOp .neq 32 (Fv x) (Fv y)).run Tryz.prog W = .ok (.bool (!decide (x = y))) W := fun x y W => by rw [run_neq_struct, run_equal32]; rfl
    go_wp2_with fail
    refine A1.out.mono ?_
    rintro _ w3 ⟨rfl, hb3⟩
    have H3 := Lib.hid (fun ob => (H2.out.below hb3).below (dn.below_alloc w3 ob))
    have F1 := Lib.hid (Fb.new w3 (xa, xn, xi))
    obtain ⟨G1, hG1⟩ : ∃ G, w3.heap.size = G := ⟨_, rfl⟩
    rw [hG1] at F1
    dsimp only at F1
    have HGD := Lib.hid H2.out.good
    have H3B := Lib.hid (fun ob => ((H2.out.below hb3).over (dn.below_alloc w3 ob)).sub (Y := fun b => b = G1) (fun b hb => .inr (.inl ⟨by omega, by rw [World.size_alloc]; omega⟩)))
    clear hb3 H2 A1
    by_cases hs : s.data.toList = []
    · have qs : (s.toList == []) = true := by rw [Lib.toList_data, hs]; rfl
      have h := HAT0.out hs
      simp only [Prod.mk.injEq] at h
      obtain ⟨_, rfl⟩ := h
      clear hne32
      go_wp2_with fail
      go_ret
      exact ⟨by simp, (H3.out _).bel⟩
    have qs : (s.toList == []) = false := by rw [Lib.toList_data]; simpa using hs
    have LK := Lib.hid (links_at HGD.out s nm hs)
    have HMK := Lib.hid (fun ob => x_make (H3B.out ob) (by decide) 1 nm 3 (⟨#[47]⟩ ++ s) (by omega) (by rw [ByteArray.size_append, z2]; omega))
    obtain ⟨mr, hmr⟩ : ∃ mr, S.make 1 nm 3 (⟨#[47]⟩ ++ s) = mr := ⟨_, rfl⟩
    rw [hmr] at HMK LK
    clear hmr
    obtain ⟨⟨mi, me⟩, S2⟩ := mr
    dsimp only at HMK LK
    go_wp2_with fail
    refine (HMK.out _).mono ?_
    rintro _ w4 ⟨rfl, h4, hs4⟩
    have H4 := Lib.hid h4
    have F4 := Lib.hid ((F1.out).same (hs4 G1 rfl))
    clear h4 hs4 H3 H3B HMK F1 HAT0 HGD hG1
    by_cases hme : me = 0
    case neg =>
      have qm : (me != 0) = true := by simpa using hme
      clear hne32
      go_wp2_with fail
      go_ret
      exact ⟨rfl, H4.out.bel⟩
    subst hme
    have LK2 := Lib.hid (LK.out rfl)
    have A2 := Lib.hid (atw_any H4.out.ctr s true)
    have A3 := Lib.hid (fun W (h : Ctr W P S2) => atw_any h (⟨#[47]⟩ ++ nm) true)
    obtain ⟨R2, hR2⟩ : ∃ R, atR S2 s true = R := ⟨_, rfl⟩
    obtain ⟨R3, hR3⟩ : ∃ R, atR S2 (⟨#[47]⟩ ++ nm) true = R := ⟨_, rfl⟩
    rw [hR2] at A2 LK2
    rw [hR3] at A3 LK2
    clear hR2 hR3 LK
    obtain ⟨⟨za, zn, zi⟩, ze⟩ := R2
    obtain ⟨⟨ya, yn, yi⟩, ye⟩ := R3
    unfold TopE FoundV at A2 A3
    dsimp only at A2 A3 LK2
    go_wp2_with fail
    refine A2.out.mono ?_
    rintro _ w5 ⟨rfl, hb5⟩
    have H5 := Lib.hid (H4.out.below hb5)
    have F5 := Lib.hid (F4.out.below hb5)
    have E5 := Lib.hid (Fb.new w5 (za, zn, zi))
    obtain ⟨G2, hG2⟩ : ∃ G, w5.heap.size = G := ⟨_, rfl⟩
    rw [hG2] at E5
    dsimp only at E5
    clear hb5 H4 F4 A2
    go_wp2_with fail
    refine (A3.out _ (H5.out.below (dn.below_alloc _ _)).ctr).mono ?_
    rintro _ w6 ⟨rfl, hb6⟩
    have H6 := Lib.hid (fun ob => ((H5.out.below (dn.below_alloc _ _)).below hb6).below (dn.below_alloc w6 ob))
    have F6 := Lib.hid ((F5.out.below (dn.below_alloc _ _)).below hb6)
    have E6 := Lib.hid (E5.out.below hb6)
    have p0 : ∀ ob, (w6.alloc ob).cell? ⟨G1, 0, none⟩ = some (.int .i64 xa) := fun ob => ((F6.out).below (dn.below_alloc w6 ob)).1
    have p1 : ∀ ob, (w6.alloc ob).cell? ⟨G1, 1, none⟩ = some (.string xn) := fun ob => ((F6.out).below (dn.below_alloc w6 ob)).2.1
    have p2 : ∀ ob, (w6.alloc ob).cell? ⟨G1, 2, none⟩ = some (.int .i64 xi) := fun ob => ((F6.out).below (dn.below_alloc w6 ob)).2.2
    have q0 : ∀ ob, (w6.alloc ob).cell? ⟨G2, 0, none⟩ = some (.int .i64 za) := fun ob => ((E6.out).below (dn.below_alloc w6 ob)).1
    have q1 : ∀ ob, (w6.alloc ob).cell? ⟨G2, 1, none⟩ = some (.string zn) := fun ob => ((E6.out).below (dn.below_alloc w6 ob)).2.1
    have q2 : ∀ ob, (w6.alloc ob).cell? ⟨G2, 2, none⟩ = some (.int .i64 zi) := fun ob => ((E6.out).below (dn.below_alloc w6 ob)).2.2
    clear hb6 H5 F5 E5 A3 hG2
    by_cases c1 : ze = 40
    · subst c1
      clear hne32
      go_wp2_with fail
      go_ret
      exact ⟨rfl, (H6.out _).bel⟩
    have k1 : (ze == 40) = false := by simpa using c1
    by_cases c2 : ye = 40
    · subst c2
      clear hne32
      go_wp2_with fail
      go_ret
      exact ⟨rfl, (H6.out _).bel⟩
    have k2 : (ye == 40) = false := by simpa using c2
    by_cases c3 : ze = xe
    case neg =>
      have k3 : (ze != xe) = true := by simpa using c3
      clear hne32 c3
      go_wp2_with fail
      go_ret
      exact ⟨rfl, (H6.out _).bel⟩
    subst c3
    have k3 : (ze != ze) = false := by simp
    by_cases c4 : ((za, zn, zi) : Fo) = (xa, xn, xi)
    case neg =>
      have hn4 := fun W => hne32 (za, zn, zi) (xa, xn, xi) W
      rw [decide_eq_false c4] at hn4
      try dsimp only at hn4
      clear hne32 c4
      go_wp2_with fail
      go_ret
      exact ⟨rfl, (H6.out _).bel⟩
    have hn4 := fun W => hne32 (za, zn, zi) (xa, xn, xi) W
    rw [decide_eq_true c4] at hn4
    simp only [Prod.mk.injEq] at c4
    obtain ⟨rfl, rfl, rfl⟩ := c4
    have he4 := fun W => run_eql32 (ya, yn, yi) (za, zn, zi) W
    try dsimp only at hn4
    try dsimp only at he4
    clear hne32
    rcases LK2.out (by simpa using c2) with h | ⟨h400, h36⟩
    · simp only [Prod.mk.injEq] at h
      obtain ⟨⟨rfl, rfl, rfl⟩, rfl⟩ := h
      rw [decide_eq_true rfl] at he4
      have k5 : (ye == ye) = true := by simp
      clear c1 c2 LK2
      go_wp2_with fail
      go_ret
      exact ⟨by simp, (H6.out _).bel⟩
    · subst h36
      have k6 : (400 : Int) < (s.size : Int) + 1 := by omega
      generalize decide (((ya, yn, yi) : Fo) = (za, zn, zi)) = bb at he4
      have k7 : ((36 : Int) == ze) = true ∨ ((36 : Int) == ze) = false := by cases ((36 : Int) == ze) <;> simp
      clear c1 c2 LK2 h400
      rcases k7 with k7 | k7
      all_goals
        cases bb
        all_goals
          go_wp2_with fail
          go_ret
          exact ⟨by simp, (H6.out _).bel⟩

set_option maxRecDepth 100000 in
theorem lifted (os : Os) (started : os.Started) (H : Type) (enc : TypeId × Value → H) :
    ReturnsInHanded {} Tryz.checked os 5 .any (Rows.walkLinksSpec.pre6 enc Tryz.prog Tryz.f5 Rows.walkLinksRow.domain false) (Rows.walkLinksSpec.post enc Tryz.prog Tryz.f5 false true false false) := by
  refine returnsInHanded_of_change_sized (C := Tryz.checked) own started (by kernel_rfl) Tryz.func5
    (ChangeSpec.witness6 (enc := enc) (C := Tryz.checked) false ⟨#[], #[.slice none 0 0, .string ByteArray.empty, .string ByteArray.empty], []⟩ 8 (by kernel_rfl) (by kernel_rfl) (by kernel_rfl) (by kernel_rfl)) ?_
  intro W base args ds gs before hval0 hW hcnd hsz _
  have hval : ∀ (j : Nat) t v, Tryz.f5.params[j]? = some t → args[j]? = some v → Value.okWide Tryz.prog W .any base t v := hval0
  have hW' := hW
  obtain ⟨p, q, hA0, hV, rfl, hfz, hnd⟩ := hW
  have hA : DataW.TrodAll enc Tryz.prog W 0 (fun _ => true) true Tryz.f5.params.toList args.toList ds p := hA0
  rw [Tryz.params5] at hA hval
  obtain ⟨v0, vs0, d0, ds0, p0, q0, hargs, rfl, rfl, h0, r0⟩ := trodAll_cons hA
  obtain ⟨v1, vs1, d1, ds1, p1, q1, rfl, rfl, rfl, h1, r1⟩ := trodAll_cons r0
  obtain ⟨v2, vs2, d2, ds2, p2, q2, rfl, rfl, rfl, h2, r2⟩ := trodAll_cons r1
  obtain ⟨rfl, rfl, rfl⟩ := trodAll_nil r2
  obtain rfl : args = #[v0, v1, v2] := by cases args; simp_all
  obtain ⟨rfl, rfl⟩ := trodVars_none hV
  have hlt := fun x hx => hW'.lt x hx
  have t0 := h0
  obtain ⟨A0, n0, c0, x0, rfl, e0, s0⟩ := open_acts (hval 0 22 v0 rfl rfl) h0
  obtain ⟨a1, rfl, rfl, rfl, w1⟩ := open_string Tryz.underlying9 (hval 1 9 v1 rfl rfl) h1
  have b1 : a1.size ≤ 140737488351232 := by
    have := sized_string hsz (j := 1) (t := 9) rfl rfl
    simpa [reachBytes] using this
  obtain ⟨a2, rfl, rfl, rfl, w2⟩ := open_string Tryz.underlying9 (hval 2 9 v2 rfl rfl) h2
  have b2 : a2.size ≤ 140737488351232 := by
    have := sized_string hsz (j := 2) (t := 9) rfl rfl
    simpa [reachBytes] using this
  clear hA0 hval0
  refine (walk A0 n0 c0 x0 a1 a2 W e0 s0 b1 b2).mono fun e W' ⟨he, hg⟩ => ?_
  subst he
  exact ⟨_, rfl, law_post (pv := []) hW' (fun _ _ _ => (trodAll_cons_mk (shut_bool Tryz.underlying4 _) trodAll_mk0)) (fun sp hsp => (trodAll_cons_mk (arg_stays t0 hg (by simp +contextual) hlt hsp laid) (trodAll_cons_mk (shut_string Tryz.underlying9 w1) (trodAll_cons_mk (shut_string Tryz.underlying9 w2) trodAll_mk0)))) (fun _ _ => rfl) (by simp)
    hg (ok_one (by kernel_rfl) rfl (okWide_bool_mk Tryz.underlying4 _))⟩

theorem over : Rows.walkLinksRow.holds Tryz.pinned (OpenSpec.ofChange Rows.walkLinksSpec) :=
  OpenClaim.holds_of_wide 5 Tryz.f5 rfl rfl rfl rfl rfl rfl rfl ⟨rfl, rfl, rfl, rfl, rfl⟩ rfl rfl rfl rfl rfl (by kernel_rfl) Tryz.func5 (by kernel_rfl)
    (of_decide_eq_true (by kernel_rfl)) (by unfold Func.isWrapper; first | (rw [if_pos (by decide +kernel)]; kernel_rfl) | (rw [if_neg (by decide +kernel)]; exact ⟨rfl, rfl⟩))
    (fun os started H enc _ => lifted os started H enc)

/-- The statement. -/
theorem proved : Rows.WalkLinksSaid :=
  over
end Go.Proofs.YtlnlehoekchdeaaGreat.walkLinks
