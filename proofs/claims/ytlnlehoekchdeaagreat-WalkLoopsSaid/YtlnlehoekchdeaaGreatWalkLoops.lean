/- For every list of acts and every three texts the law WalkLoops returns true, and what is handed in reads as it did; there are no conditions. -/
import Derived.Test.YtlnlehoekchdeaaGreatZ46
import Derived.Deep.RegionWith
import Derived.Deep.QuietTactic
import Derived.BigQuiet
import Derived.ProofKit
import Derived.OpenShut
import Derived.ShutString
import Derived.SizedLaws
namespace Go.Proofs.YtlnlehoekchdeaaGreat.walkLoops
open Go.ChangeShapes Go.WideShapes Go.ChangeAt Go.RowKit
open Go.ChangeMaps (open_string shut_string)
open Go.Proofs.YtlnlehoekchdeaaGreat.cb
set_option linter.unusedVariables false

theorem own : ownKnob Tryz.prog.godebug = none := by kernel_rfl
theorem laid : laidOutB Tryz.prog = true := by kernel_rfl

open Go.Deep
open Go.Proofs.YtlnlehoekchdeaaGreat.br
open Go.Proofs.YtlnlehoekchdeaaGreat.bl (Pq)
open Go.Proofs.YtlnlehoekchdeaaGreat.wk (walkT pe pn pd nn slash Tr)
open Go.Proofs.YtlnlehoekchdeaaGreat.pa (Bs perr pdir nms comps comps_mid compsA perr_zero pnames_ok pdirE_ok lastDots)
theorem compsA_none : ∀ (l cur : Bs), compsA cur l = [] → cur = [] ∧ ∀ c ∈ l, c = 47
  | [], cur, h => by
    unfold compsA at h
    cases cur with
    | nil => exact ⟨rfl, by simp⟩
    | cons c t => simp at h
  | c :: r, cur, h => by
    unfold compsA at h
    by_cases h1 : c = 47
    · rw [if_pos h1] at h
      cases cur with
      | nil =>
        simp at h
        have := compsA_none r [] h
        exact ⟨rfl, fun x hx => by
          rcases List.mem_cons.1 hx with e | e
          · rw [e, h1]
          · exact this.2 x e⟩
      | cons c t => simp at h
    · rw [if_neg h1] at h
      have := (compsA_none r (cur ++ [c]) h).1
      simp at this
theorem comps_none {l : Bs} (h : comps l = []) : ∀ c ∈ l, c = 47 := (compsA_none l [] h).2
/-- A name and nothing behind it but slashes and dots: a directory's path. -/
theorem pdir_rest (a rest : Bs) (h : nms rest = []) : pdir (a ++ 47 :: rest) = true := by
  unfold pdir
  by_cases hc : comps rest = []
  · have hs : Lib.hasSuffix (a ++ 47 :: rest) [47] = true := by
      unfold Lib.hasSuffix
      rw [List.isSuffixOf_iff_suffix]
      cases hr : rest with
      | nil => exact ⟨a, by simp⟩
      | cons c r =>
        have hne : rest ≠ [] := by rw [hr]; simp
        have hl := comps_none hc (rest.getLast hne) (List.getLast_mem hne)
        refine ⟨a ++ 47 :: rest.dropLast, ?_⟩
        rw [← hr, List.append_assoc, List.cons_append, ← hl, List.dropLast_concat_getLast hne]
    rw [hs]; simp
  · have : lastDots (comps (a ++ 47 :: rest)) = true := by
      unfold lastDots
      rw [comps_mid, List.getLast?_append]
      have hx := List.getLast?_eq_some_getLast hc
      rw [hx]
      have hm := List.getLast_mem hc
      unfold nms at h
      rw [List.filter_eq_nil_iff] at h
      have := h _ hm
      simp at this
      simp [this]
    rw [this]; simp
structure Rd (X : Tr) (a c ta : ByteArray) (ia ic : Int) : Prop where
  k1 : X.kind 1 = 2
  ga : X.get 1 a = (ia, 0)
  ka : X.kind ia = 3
  tA : X.target ia = (ta, 0)
  gc : X.get 1 c = (ic, 0)
  kc : X.kind ic = 3
  tc : X.target ic = (a, 0)
  na : NmOk a
  nc : NmOk c
  pt : pe ta = 0 ∧ pn ta = [c, ⟨#[120]⟩] ∧ slash ta = true
theorem slash_name {n : ByteArray} (h : NmOk n) : slash n = false := by
  unfold slash
  cases hl : n.data.toList with
  | nil => rfl
  | cons x l =>
    have := h.sl x (by rw [hl]; simp)
    simp [this]
/-- Round and round. -/
theorem round {X : Tr} {a c ta : ByteArray} {ia ic : Int} (h : Rd X a c ta ia ic) : ∀ (m : Nat) (fol : Bool),
    (∀ r d, (r ≠ [] ∨ fol = true ∨ d = true) → ((walkT X fol m 1 (a :: r) d).2 = 40 ∨ (walkT X fol m 1 (a :: r) d).2 = 36) ∧ (2 + r.length + m ≤ 400 → (walkT X fol m 1 (a :: r) d).2 = 40)) ∧
    (∀ r d, (r ≠ [] ∨ fol = true ∨ d = true) → ((walkT X fol m 1 (c :: r) d).2 = 40 ∨ (walkT X fol m 1 (c :: r) d).2 = 36) ∧ (1 + r.length + m ≤ 400 → (walkT X fol m 1 (c :: r) d).2 = 40)) := by
  intro m
  induction m with
  | zero =>
    intro fol
    refine ⟨fun r d hr => ?_, fun r d hr => ?_⟩
    · have hL : wk.Lnk X fol 1 a r d := ⟨by rw [h.ga]; exact h.ka, hr⟩
      rw [wk.w_loop h.k1 h.na.d2 h.na.d1 (by rw [h.ga]) hL]
      exact ⟨.inl rfl, fun _ => rfl⟩
    · have hL : wk.Lnk X fol 1 c r d := ⟨by rw [h.gc]; exact h.kc, hr⟩
      rw [wk.w_loop h.k1 h.nc.d2 h.nc.d1 (by rw [h.gc]) hL]
      exact ⟨.inl rfl, fun _ => rfl⟩
  | succ k ih =>
    intro fol
    refine ⟨fun r d hr => ?_, fun r d hr => ?_⟩
    · have hL : wk.Lnk X fol 1 a r d := ⟨by rw [h.ga]; exact h.ka, hr⟩
      rw [wk.w_link h.k1 h.na.d2 h.na.d1 (by rw [h.ga]) hL, h.ga]
      dsimp only
      rw [h.tA]
      dsimp only
      rw [if_neg (nn rfl), if_neg (nn h.pt.1), h.pt.2.1, h.pt.2.2, if_pos rfl]
      by_cases hl : 400 < ([c, ⟨#[120]⟩] : List ByteArray).length + r.length
      · rw [if_pos hl]
        exact ⟨.inr rfl, fun e => by simp only [List.length_cons, List.length_nil] at hl; omega⟩
      · rw [if_neg hl]
        have := (ih fol).2 (⟨#[120]⟩ :: r) (if r = [] then d || pd ta else d) (.inl (by simp))
        exact ⟨this.1, fun e => this.2 (by simp only [List.length_cons]; omega)⟩
    · have hL : wk.Lnk X fol 1 c r d := ⟨by rw [h.gc]; exact h.kc, hr⟩
      rw [wk.w_link h.k1 h.nc.d2 h.nc.d1 (by rw [h.gc]) hL, h.gc]
      dsimp only
      rw [h.tc]
      dsimp only
      rw [if_neg (nn rfl), if_neg (nn (pe_name h.na)), pn_name h.na, slash_name h.na, if_neg (by decide : ¬ false = true)]
      by_cases hl : 400 < ([a] : List ByteArray).length + r.length
      · rw [if_pos hl]
        exact ⟨.inr rfl, fun e => by simp only [List.length_cons, List.length_nil] at hl; omega⟩
      · rw [if_neg hl]
        have := (ih fol).1 r (if r = [] then d || pd a else d) (by
          rcases hr with h1 | h1 | h1
          · exact .inl h1
          · exact .inr (.inl h1)
          · refine .inr (.inr ?_)
            rw [h1]; split <;> simp)
        exact ⟨this.1, fun e => this.2 (by omega)⟩
theorem loops_at {S : BS} {room : Nat} (hG : br.Good S room) (a c rest : ByteArray) (h1 : (S.make 1 a 3 (⟨#[47]⟩ ++ c ++ ⟨#[47, 120]⟩)).1.2 = 0) (h2 : ((S.make 1 a 3 (⟨#[47]⟩ ++ c ++ ⟨#[47, 120]⟩)).2.make 1 c 3 a).1.2 = 0) :
    (atR ((S.make 1 a 3 (⟨#[47]⟩ ++ c ++ ⟨#[47, 120]⟩)).2.make 1 c 3 a).2 (⟨#[47]⟩ ++ a) true).2 = 40 ∧
    ((atR ((S.make 1 a 3 (⟨#[47]⟩ ++ c ++ ⟨#[47, 120]⟩)).2.make 1 c 3 a).2 (a ++ ⟨#[47]⟩ ++ rest) false).2 = 40 ∨ (atR ((S.make 1 a 3 (⟨#[47]⟩ ++ c ++ ⟨#[47, 120]⟩)).2.make 1 c 3 a).2 (a ++ ⟨#[47]⟩ ++ rest) false).2 = 36 ∨ (atR ((S.make 1 a 3 (⟨#[47]⟩ ++ c ++ ⟨#[47, 120]⟩)).2.make 1 c 3 a).2 (a ++ ⟨#[47]⟩ ++ rest) false).2 = 22) ∧
    (atR ((S.make 1 a 3 (⟨#[47]⟩ ++ c ++ ⟨#[47, 120]⟩)).2.make 1 c 3 a).2 c false).2 = 0 := by
  obtain ⟨hna, ia, a1, a2, a3, _, _⟩ := made hG h1
  have hG1 := hG.make 1 a 3 (⟨#[47]⟩ ++ c ++ ⟨#[47, 120]⟩)
  generalize (S.make 1 a 3 (⟨#[47]⟩ ++ c ++ ⟨#[47, 120]⟩)).2 = S1 at *
  obtain ⟨hnc, ic, c1, c2, c3, c4, c5⟩ := made hG1 h2
  have hac : a ≠ c := by
    intro e
    have hv : S1.vacant 1 c = 0 := by
      unfold BS.make at h2
      by_cases e1 : S1.vacant 1 c = 0
      · exact e1
      · rw [if_pos e1] at h2; exact absurd h2 e1
    obtain ⟨D, hD, _, _, _, _, hg, _⟩ := vacant_ok hv
    obtain rfl : D = 1 := by omega
    have := get_yes (S := S1) (k := 1) (n := a) (by show (S1.get 1 a).2 = 0; rw [a1])
    rw [e, hg] at this
    cases this
  obtain ⟨b1, b2, b3⟩ := c5 a ia hac a1
  rw [a2] at b2
  rw [a3] at b3
  generalize (S1.make 1 c 3 a).2 = S2 at *
  have et : (⟨#[47]⟩ ++ c ++ ⟨#[47, 120]⟩ : ByteArray).data.toList = 47 :: (c.data.toList ++ 47 :: [120]) := by rw [toL, toL]; rfl
  have ec : comps (47 :: (c.data.toList ++ 47 :: [120])) = [c.data.toList, [120]] := by
    rw [wk.comps_front, comps_mid, comps_name hnc]; rfl
  have en : nms (47 :: (c.data.toList ++ 47 :: [120])) = [c.data.toList, [120]] := by
    unfold nms; rw [ec]; simp [hnc.b1]
  have ep : perr (47 :: (c.data.toList ++ 47 :: [120])) = 0 := by
    rw [perr_zero]
    refine ⟨by simp, ?_, ?_, ?_, ?_⟩
    · have := hnc.len; simp only [List.length_cons, List.length_append, List.length_nil]; omega
    · have := hnc.zr; simp [this]
    · rw [ec]; intro x hx; simp at hx; rcases hx with rfl | rfl
      · exact hnc.len
      · decide
    · rw [en]; simp
  have R : Rd (trS S2) a c (⟨#[47]⟩ ++ c ++ ⟨#[47, 120]⟩) ia ic := ⟨c4, b1, b2, b3, c1, c2, c3, hna, hnc, by unfold pe; rw [et]; exact ep, by unfold pn; rw [et, pnames_ok ep, en]; simp, by unfold slash; rw [et]; rfl⟩
  refine ⟨?_, ?_, ?_⟩
  · rw [atR_front true hna]
    exact ((round R 40 true).1 [] false (.inr (.inl rfl))).2 (by decide)
  · have er : (a ++ ⟨#[47]⟩ ++ rest : ByteArray).data.toList = a.data.toList ++ 47 :: rest.data.toList := by rw [toL, toL]; simp
    unfold atR
    by_cases hp : perr (a.data.toList ++ 47 :: rest.data.toList) = 0
    case neg =>
      have e1 : pe (a ++ ⟨#[47]⟩ ++ rest) = perr (a.data.toList ++ 47 :: rest.data.toList) := by unfold pe; rw [er]
      rw [e1, if_pos hp]
      show perr _ = 40 ∨ perr _ = 36 ∨ perr _ = 22
      unfold perr at hp ⊢
      rw [if_neg (by simp)] at hp ⊢
      split
      · exact .inr (.inl rfl)
      split
      · exact .inr (.inr rfl)
      split
      · exact .inr (.inl rfl)
      split
      · exact .inr (.inl rfl)
      · rename_i q1 q2 q3 q4
        rw [if_neg q1, if_neg q2, if_neg q3, if_neg q4] at hp
        exact absurd rfl hp
    have e1 : pe (a ++ ⟨#[47]⟩ ++ rest) = 0 := by unfold pe; rw [er]; exact hp
    have e2 : pn (a ++ ⟨#[47]⟩ ++ rest) = a :: (nms rest.data.toList).map fun x => ⟨x.toArray⟩ := by
      unfold pn; rw [er, pnames_ok hp]
      unfold nms
      rw [comps_mid, List.filter_append, comps_name hna]
      simp [hna.b1]
    have e3 : pd (a ++ ⟨#[47]⟩ ++ rest) = pdir (a.data.toList ++ 47 :: rest.data.toList) := by unfold pd; rw [er, pdirE_ok hp]
    rw [e1, if_neg (nn rfl), e2, e3]
    have := ((round R 40 false).1 ((nms rest.data.toList).map fun x => ⟨x.toArray⟩) (pdir (a.data.toList ++ 47 :: rest.data.toList)) (by
      by_cases hn : nms rest.data.toList = []
      · exact .inr (.inr (pdir_rest _ _ hn))
      · exact .inl (by simpa using hn))).1
    rcases this with h | h
    · exact .inl h
    · exact .inr (.inl h)
  · rw [atR_name false hnc]
    have hnl : ¬ wk.Lnk (trS S2) false 1 c [] false := by rintro ⟨_, e | e | e⟩ <;> first | exact e rfl | cases e
    rw [wk.w_last (X := trS S2) c4 hnc.d2 hnc.d1 (by show (S2.get 1 c).2 = 0; rw [c1]) hnl, if_neg (by simp)]
set_option maxHeartbeats 4000000 in
set_option maxRecDepth 100000 in
theorem walk (A : Option Addr) (n c : Nat) (F : Nat → Act6) (a c2 rest : ByteArray) (w : World) (k1 : n ≤ c ∧ c ≤ maxLen) (hF : Acts w w.heap.size A n F) (wa : a.size ≤ 140737488351232) (wc : c2.size ≤ 140737488351232) (wr : rest.size ≤ 140737488351232) :
    Calls Tryz.prog 7 #[.slice A n c, .string a, .string c2, .string rest] w (AwakeE w) := by
  have hnm : n ≤ maxLen := Nat.le_trans k1.1 k1.2
  have HBD := Lib.hid (fun w1 (hb : Below w.heap.size w w1) => bld_any A n c F w w1 hnm hF hb)
  clear k1 hF hnm
  go_enter Tryz.func7, Tryz.ntmps7
  go_wp2_with fail
  refine (awake_any _).mono ?_
  rintro _ w1 ⟨rfl, hb1⟩
  have HB1 := Lib.hid (HBD.out _ hb1)
  clear hb1 HBD
  go_wp2_with fail
  refine HB1.out.mono ?_
  rintro _ w2 ⟨ok, P, D, S, rfl, h2⟩
  have H2 := Lib.hid h2
  clear h2 HB1
  cases ok with
  | false =>
    go_wp2_with fail
    go_ret
    exact ⟨rfl, H2.out.bel⟩
  | true =>
    have z1 : (⟨#[47, 120]⟩ : ByteArray).size = 2 := rfl
    have z2 : (⟨#[47]⟩ : ByteArray).size = 1 := rfl
    have l1 : 1 + c2.size + 1 ≤ 9223372036854775807 := by omega
    have l2 : (⟨#[47]⟩ ++ c2).size + 1 ≤ 9223372036854775807 := by rw [ByteArray.size_append, z2]; omega
    have l3 : (⟨#[47]⟩ ++ c2).size + 2 + 1 ≤ 9223372036854775807 := by rw [ByteArray.size_append, z2]; omega
    have l3' : 1 + c2.size + 2 + 1 ≤ 9223372036854775807 := by omega
    have l4 : (⟨#[47]⟩ ++ c2 ++ ⟨#[47, 120]⟩).size + 1 ≤ 9223372036854775807 := by rw [ByteArray.size_append, ByteArray.size_append, z1, z2]; omega
    have m1 : 1 + a.size + 1 ≤ 9223372036854775807 := by omega
    have m2 : (⟨#[47]⟩ ++ a).size + 1 ≤ 9223372036854775807 := by rw [ByteArray.size_append, z2]; omega
    have k1 : a.size + 1 + 1 ≤ 9223372036854775807 := by omega
    have k2 : (a ++ ⟨#[47]⟩).size + 1 ≤ 9223372036854775807 := by rw [ByteArray.size_append, z2]; omega
    have k3 : (a ++ ⟨#[47]⟩).size + rest.size + 1 ≤ 9223372036854775807 := by rw [ByteArray.size_append, z2]; omega
    have k3' : a.size + 1 + rest.size + 1 ≤ 9223372036854775807 := by omega
    have k4 : (a ++ ⟨#[47]⟩ ++ rest).size + 1 ≤ 9223372036854775807 := by rw [ByteArray.size_append, ByteArray.size_append, z2]; omega
    have LP := Lib.hid (loops_at H2.out.good a c2 rest)
    have HMK := Lib.hid (x_make H2.out (by decide) 1 a 3 (⟨#[47]⟩ ++ c2 ++ ⟨#[47, 120]⟩) (by omega) (by rw [ByteArray.size_append, ByteArray.size_append, z1, z2]; omega))
    obtain ⟨mr, hmr⟩ : ∃ mr, S.make 1 a 3 (⟨#[47]⟩ ++ c2 ++ ⟨#[47, 120]⟩) = mr := ⟨_, rfl⟩
    rw [hmr] at HMK LP
    clear hmr H2
    obtain ⟨⟨mi, me⟩, S1⟩ := mr
    dsimp only at HMK LP
    go_wp2_with fail
    refine HMK.out.mono ?_
    rintro _ w3 ⟨rfl, h3, -⟩
    have H3 := Lib.hid h3
    clear h3 HMK
    by_cases hme : me = 0
    case neg =>
      have qm : (me != 0) = true := by simpa using hme
      go_wp2_with fail
      go_ret
      exact ⟨rfl, H3.out.bel⟩
    subst hme
    have HMC := Lib.hid (x_make H3.out (by decide) 1 c2 3 a (by omega) (by omega))
    have LP1 := Lib.hid (LP.out rfl)
    obtain ⟨mr, hmr⟩ : ∃ mr, S1.make 1 c2 3 a = mr := ⟨_, rfl⟩
    rw [hmr] at HMC LP1
    clear hmr H3 LP
    obtain ⟨⟨mj, mf⟩, S2⟩ := mr
    dsimp only at HMC LP1
    go_wp2_with fail
    refine HMC.out.mono ?_
    rintro _ w4 ⟨rfl, h4, -⟩
    have H4 := Lib.hid h4
    clear h4 HMC
    by_cases hmf : mf = 0
    case neg =>
      have qm : (mf != 0) = true := by simpa using hmf
      go_wp2_with fail
      go_ret
      exact ⟨rfl, H4.out.bel⟩
    subst hmf
    have LP2 := Lib.hid (LP1.out rfl)
    have A1 := Lib.hid (atw_any H4.out.ctr (⟨#[47]⟩ ++ a) true)
    have A2 := Lib.hid (fun W (h : Ctr W P S2) => atw_any h (a ++ ⟨#[47]⟩ ++ rest) false)
    have A3 := Lib.hid (fun W (h : Ctr W P S2) => atw_any h c2 false)
    obtain ⟨R1, hR1⟩ : ∃ R, atR S2 (⟨#[47]⟩ ++ a) true = R := ⟨_, rfl⟩
    obtain ⟨R2, hR2⟩ : ∃ R, atR S2 (a ++ ⟨#[47]⟩ ++ rest) false = R := ⟨_, rfl⟩
    obtain ⟨R3, hR3⟩ : ∃ R, atR S2 c2 false = R := ⟨_, rfl⟩
    rw [hR1] at A1 LP2
    rw [hR2] at A2 LP2
    rw [hR3] at A3 LP2
    clear hR1 hR2 hR3 LP1
    obtain ⟨⟨xa, xn, xi⟩, xe⟩ := R1
    obtain ⟨⟨ya, yn, yi⟩, ye⟩ := R2
    obtain ⟨⟨za, zn, zi⟩, ze⟩ := R3
    unfold TopE FoundV at A1 A2 A3
    dsimp only at A1 A2 A3 LP2
    obtain ⟨rfl, hye, rfl⟩ := LP2.out
    clear LP2
    go_wp2_with fail
    refine A1.out.mono ?_
    rintro _ w5 ⟨rfl, hb5⟩
    have H5 := Lib.hid (fun ob => (H4.out.below hb5).below (dn.below_alloc w5 ob))
    clear hb5 H4 A1
    go_wp2_with fail
    refine (A2.out _ (H5.out _).ctr).mono ?_
    rintro _ w6 ⟨rfl, hb6⟩
    have H6 := Lib.hid (fun ob => ((H5.out _).below hb6).below (dn.below_alloc w6 ob))
    clear hb6 H5 A2
    go_wp2_with fail
    refine (A3.out _ (H6.out _).ctr).mono ?_
    rintro _ w7 ⟨rfl, hb7⟩
    have H7 := Lib.hid (fun ob => ((H6.out _).below hb7).below (dn.below_alloc w7 ob))
    clear hb7 H6 A3
    rcases hye with rfl | rfl | rfl
    all_goals
      go_wp2_with fail
      go_ret
      exact ⟨rfl, (H7.out _).bel⟩

set_option maxRecDepth 100000 in
theorem lifted (os : Os) (started : os.Started) (H : Type) (enc : TypeId × Value → H) :
    ReturnsInHanded {} Tryz.checked os 7 .any (Rows.walkLoopsSpec.pre6 enc Tryz.prog Tryz.f7 Rows.walkLoopsRow.domain false) (Rows.walkLoopsSpec.post enc Tryz.prog Tryz.f7 false true false false) := by
  refine returnsInHanded_of_change_sized (C := Tryz.checked) own started (by kernel_rfl) Tryz.func7
    (ChangeSpec.witness6 (enc := enc) (C := Tryz.checked) false ⟨#[], #[.slice none 0 0, .string ByteArray.empty, .string ByteArray.empty, .string ByteArray.empty], []⟩ 8 (by kernel_rfl) (by kernel_rfl) (by kernel_rfl) (by kernel_rfl)) ?_
  intro W base args ds gs before hval0 hW hcnd hsz _
  have hval : ∀ (j : Nat) t v, Tryz.f7.params[j]? = some t → args[j]? = some v → Value.okWide Tryz.prog W .any base t v := hval0
  have hW' := hW
  obtain ⟨p, q, hA0, hV, rfl, hfz, hnd⟩ := hW
  have hA : DataW.TrodAll enc Tryz.prog W 0 (fun _ => true) true Tryz.f7.params.toList args.toList ds p := hA0
  rw [Tryz.params7] at hA hval
  obtain ⟨v0, vs0, d0, ds0, p0, q0, hargs, rfl, rfl, h0, r0⟩ := trodAll_cons hA
  obtain ⟨v1, vs1, d1, ds1, p1, q1, rfl, rfl, rfl, h1, r1⟩ := trodAll_cons r0
  obtain ⟨v2, vs2, d2, ds2, p2, q2, rfl, rfl, rfl, h2, r2⟩ := trodAll_cons r1
  obtain ⟨v3, vs3, d3, ds3, p3, q3, rfl, rfl, rfl, h3, r3⟩ := trodAll_cons r2
  obtain ⟨rfl, rfl, rfl⟩ := trodAll_nil r3
  obtain rfl : args = #[v0, v1, v2, v3] := by cases args; simp_all
  obtain ⟨rfl, rfl⟩ := trodVars_none hV
  have hlt := fun x hx => hW'.lt x hx
  have t0 := h0
  obtain ⟨A0, n0, c0, x0, rfl, e0, s0⟩ := open_acts (hval 0 22 v0 rfl rfl) h0
  obtain ⟨a1, rfl, rfl, rfl, w1⟩ := open_string Tryz.underlying9 (hval 1 9 v1 rfl rfl) h1
  have b1 : a1.size ≤ 140737488351232 := by
    have := sized_string hsz (j := 1) (t := 9) rfl rfl
    simpa [reachBytes] using this
  obtain ⟨a2, rfl, rfl, rfl, w2⟩ := open_string Tryz.underlying9 (hval 2 9 v2 rfl rfl) h2
  have b2 : a2.size ≤ 140737488351232 := by
    have := sized_string hsz (j := 2) (t := 9) rfl rfl
    simpa [reachBytes] using this
  obtain ⟨a3, rfl, rfl, rfl, w3⟩ := open_string Tryz.underlying9 (hval 3 9 v3 rfl rfl) h3
  have b3 : a3.size ≤ 140737488351232 := by
    have := sized_string hsz (j := 3) (t := 9) rfl rfl
    simpa [reachBytes] using this
  clear hA0 hval0
  refine (walk A0 n0 c0 x0 a1 a2 a3 W e0 s0 b1 b2 b3).mono fun e W' ⟨he, hg⟩ => ?_
  subst he
  exact ⟨_, rfl, law_post (pv := []) hW' (fun _ _ _ => (trodAll_cons_mk (shut_bool Tryz.underlying4 _) trodAll_mk0)) (fun sp hsp => (trodAll_cons_mk (arg_stays t0 hg (by simp +contextual) hlt hsp laid) (trodAll_cons_mk (shut_string Tryz.underlying9 w1) (trodAll_cons_mk (shut_string Tryz.underlying9 w2) (trodAll_cons_mk (shut_string Tryz.underlying9 w3) trodAll_mk0))))) (fun _ _ => rfl) (by simp)
    hg (ok_one (by kernel_rfl) rfl (okWide_bool_mk Tryz.underlying4 _))⟩

theorem over : Rows.walkLoopsRow.holds Tryz.pinned (OpenSpec.ofChange Rows.walkLoopsSpec) :=
  OpenClaim.holds_of_wide 7 Tryz.f7 rfl rfl rfl rfl rfl rfl rfl ⟨rfl, rfl, rfl, rfl, rfl⟩ rfl rfl rfl rfl rfl (by kernel_rfl) Tryz.func7 (by kernel_rfl)
    (of_decide_eq_true (by kernel_rfl)) (by unfold Func.isWrapper; first | (rw [if_pos (by decide +kernel)]; kernel_rfl) | (rw [if_neg (by decide +kernel)]; exact ⟨rfl, rfl⟩))
    (fun os started H enc _ => lifted os started H enc)

/-- The statement. -/
theorem proved : Rows.WalkLoopsSaid :=
  over
end Go.Proofs.YtlnlehoekchdeaaGreat.walkLoops
