/- For every text the law PathNames returns true, and the text reads as it did; there are no conditions. -/
import Derived.Test.YtlaceeiodlpmdaaPth
import Derived.Test.YtlaceeiodlpmdaaName
import Derived.Test.YtlaceeiodlpmdaaBack
import Derived.Test.YtlaceeiodlpmdaaFrame
import Derived.ProofKit
import Derived.OpenShut
import Derived.ShutString
namespace Go.Proofs.Ytlaceeiodlpmdaa.pathNames
open Go.ChangeShapes Go.WideShapes Go.ChangeAt Go.RowKit
open Go.ChangeMaps (open_string shut_string)
set_option linter.unusedVariables false      -- a walk need not use every 'w<i>' (that an integer argument fits its kind)

theorem own : ownKnob Try.prog.godebug = none := by kernel_rfl

theorem nerr_comp (L x : Bs) (h : perr L = 0) (hx : x ∈ nms L) : nerr x = 0 ∧ x ≠ [46] ∧ x.length ≤ 60 := by
  obtain ⟨⟨h1, h2, h3⟩, h4⟩ := nms_is L x hx
  obtain ⟨_, _, h0, h60, _⟩ := perr_zero.1 h
  have hl := h60 x (List.mem_filter.1 hx).1
  refine ⟨?_, h4, hl⟩
  unfold nerr
  rw [if_neg h1, if_neg (by omega), if_neg]
  rintro (hz | hz)
  · exact h0 (h3 0 hz)
  · exact h2 47 hz rfl
theorem nerr_pnames (L x : Bs) (hx : x ∈ pnames L) : nerr x = 0 ∧ x ≠ [46] ∧ x.length ≤ 60 := by
  by_cases h : perr L = 0
  · rw [pnames_ok h] at hx; exact nerr_comp L x h hx
  · rw [pnames_no h] at hx; simp at hx
theorem name_path (L : Bs) (h : nerr L = 0) (hd : L ≠ [46]) : perr L = 0 ∧ pnames L = [L] ∧ pdirE L = (L == [46, 46]) := by
  unfold nerr at h
  by_cases h0 : L = []
  · rw [if_pos h0] at h; simp at h
  · rw [if_neg h0] at h
    by_cases h60 : 60 < L.length
    · rw [if_pos h60] at h; simp at h
    · rw [if_neg h60] at h
      by_cases hb : (0 : UInt8) ∈ L ∨ (47 : UInt8) ∈ L
      · rw [if_pos hb] at h; simp at h
      · have hc : comps L = [L] := by
          rw [comps_one L (fun c hc e => hb (.inr (by rw [← e]; exact hc))), one_ne L h0]
        have hn : nms L = [L] := by
          show (comps L).filter _ = _
          rw [hc]
          simp [hd]
        have hp : perr L = 0 := by
          rw [perr_zero]
          refine ⟨h0, by omega, fun hz => hb (.inl hz), ?_, by rw [hn]; simp⟩
          rw [hc]
          intro x hx
          simp at hx
          subst hx
          omega
        refine ⟨hp, by rw [pnames_ok hp, hn], ?_⟩
        rw [pdirE_ok hp]
        unfold pdir
        rw [hc, suffix_last]
        have hl : (L.getLast? == some 47) = false := by
          rw [beq_eq_false_iff_ne]
          intro e
          obtain ⟨ys, rfl⟩ := List.getLast?_eq_some_iff.1 e
          exact hb (.inr (by simp))
        rw [hl]
        simp [lastDots, hd]

theorem isDots (s : ByteArray) (x : Bs) : (s.toList == x) = (s.data.toList == x) := by rw [Lib.toList_data]

set_option maxHeartbeats 4000000 in
theorem walk (s : ByteArray) (w0 : s.size ≤ maxLen) (w : World) : Calls Try.prog 7 #[.string s] w (AwakeE w) := by
  unfold maxLen at w0
  have hP := fun w => parse_any s w
  have hN := fun w => name_any s w w0
  unfold ParseE at hP
  unfold NameE at hN
  have HX := Lib.hid (fun x hx => nerr_pnames s.data.toList x hx)
  have HF := Lib.hid (name_path s.data.toList)
  have h40 := pnames_le s.data.toList
  generalize hxs : pnames s.data.toList = xs at *
  have HXS := Lib.hid hxs
  clear hxs
  generalize pdirE s.data.toList = d at *
  generalize perr s.data.toList = pe at *
  go_enter Try.func7, Try.ntmps7
  go_wp2_with (go_at_call 12; refine (awake_any _).mono ?_; rintro e w1 ⟨rfl, hB⟩)
  refine (hP _).mono ?_
  rintro e w2 ⟨A, c, rfl, o2, hb⟩
  have p := Pth.own d o2
  replace hB := below_step hB (hb.trans ((below_alloc w2 (.cells #[.slice A xs.length c, .bool d] 25)).mono hb.size))
  clear hb o2
  have q0 := p.box.c0
  go_wp2_with fail
  clear q0
  go_loopg [5, 16] xs.length (fun g _ i wr => ∃ k : Nat, k ≤ xs.length ∧ g + k = xs.length ∧ i = .int .i64 k ∧ Below (w2.alloc (.cells #[.slice A xs.length c, .bool d] 25)).heap.size (w2.alloc (.cells #[.slice A xs.length c, .bool d] 25)) wr)
  case atStart => exact ⟨0, by omega, by omega, rfl, Below.refl _ _⟩
  case round =>
    obtain ⟨k, hk, hg, rfl, hb⟩ := hrel
    have pr := p.keep hb
    have q0 := pr.box.c0
    by_cases hlt : k < xs.length
    · obtain ⟨ad, x, rfl, _, hx, hcx⟩ := pr.st.get hlt
      have HM := Lib.hid (HX.out x (List.mem_of_getElem? hx))
      have hNx := fun w => name_any ⟨x.toArray⟩ w (by have := HM.out.2.2; rw [Lib.size_eq]; simp; omega)
      unfold NameE at hNx
      simp only at hNx
      rw [HM.out.1] at hNx
      have hd : (x == [46]) = false := by rw [beq_eq_false_iff_ne]; exact HM.out.2.1
      clear hx
      go_wp2_with fail
      refine (hNx _).mono ?_
      rintro e w4 ⟨rfl, hb4⟩
      have q1 := (pr.keep hb4).box.c0
      have hcx2 := (hb4.cell (World.block_lt_of_cell? _ _ hcx)).trans hcx
      clear q0 hcx
      go_wp2_with fail
      go_roundg (gk - 1)
      case measure => omega
      case rel => exact ⟨k + 1, by omega, by omega, by go_num, hb.trans (hb4.mono hb.size)⟩
    · replace hB := below_step hB hb
      go_wp2_with fail
      refine (hN _).mono ?_
      rintro e w4 ⟨rfl, hb4⟩
      replace hB := below_step hB hb4
      have pr2 := pr.keep hb4
      clear pr q0 hb hb4 p hP hN
      by_cases hn : nerr s.data.toList = 0
      · by_cases hd : s.data.toList = [46]
        · have hdB : (s.toList == [46]) = true := by rw [isDots, hd]; rfl
          have hnB : (nerr s.data.toList != 0) = false := by rw [hn]; rfl
          clear hn hd
          generalize nerr s.data.toList = ne at *
          go_wp2_with fail
          go_ret
          exact ⟨rfl, hB⟩
        · have hdB : (s.toList == [46]) = false := by rw [isDots, beq_eq_false_iff_ne]; exact hd
          obtain ⟨h1, h2, h3⟩ := HF.out hn hd
          have hxl : xs.length = 1 := by rw [h2]; rfl
          obtain ⟨ad, x, rfl, _, hx, hcx⟩ := pr2.st.get (k := 0) (by omega)
          rw [h2] at hx
          simp at hx
          subst hx
          have hsv : Sv s.data.toList = .string s := congrArg Value.string (Lib.mk_data s)
          rw [hsv] at hcx
          have hcx2 : w4.cell? ad = some (.string s) := by simpa [Addr.add] using hcx
          clear hcx
          have q0 := pr2.box.c0
          have q1 := pr2.box.c1
          rw [hn]
          clear pr2 HF HX h2 hk hlt hg hd hsv HXS
          subst h1
          generalize xs.length = n at *
          subst hxl
          cases hdd : (s.toList == [46, 46])
          · have : d = false := by rw [h3, ← isDots, hdd]
            subst this
            clear h3
            go_wp2_with fail
            go_ret
            exact ⟨rfl, hB⟩
          · have : d = true := by rw [h3, ← isDots, hdd]
            subst this
            clear h3
            go_wp2_with fail
            go_ret
            exact ⟨rfl, hB⟩
      · have hnB : (nerr s.data.toList != 0) = true := by rw [bne_iff_ne]; exact hn
        clear hn
        generalize nerr s.data.toList = ne at *
        go_wp2_with fail
        go_ret
        exact ⟨rfl, hB⟩

set_option maxRecDepth 100000 in
theorem lifted (os : Os) (started : os.Started) (H : Type) (enc : TypeId × Value → H) :
    ReturnsInHanded {} Try.checked os 7 .any (Rows.pathNamesSpec.pre6 enc Try.prog Try.f7 Rows.pathNamesRow.domain false) (Rows.pathNamesSpec.post enc Try.prog Try.f7 false true false false) := by
  refine returnsInHanded_of_change (C := Try.checked) own started (by kernel_rfl) Try.func7
    (ChangeSpec.witness6 (enc := enc) (C := Try.checked) false ⟨#[], #[.string ByteArray.empty], []⟩ 8 (by kernel_rfl) (by kernel_rfl) (by kernel_rfl) (by kernel_rfl)) ?_
  intro W base args ds gs before hval0 hW hcnd _
  have hval : ∀ (j : Nat) t v, Try.f7.params[j]? = some t → args[j]? = some v → Value.okWide Try.prog W .any base t v := hval0
  have hW' := hW
  obtain ⟨p, q, hA0, hV, rfl, hfz, hnd⟩ := hW
  have hA : DataW.TrodAll enc Try.prog W 0 (fun _ => true) true Try.f7.params.toList args.toList ds p := hA0
  rw [Try.params7] at hA hval
  obtain ⟨v0, vs0, d0, ds0, p0, q0, hargs, rfl, rfl, h0, r0⟩ := trodAll_cons hA
  obtain ⟨rfl, rfl, rfl⟩ := trodAll_nil r0
  obtain rfl : args = #[v0] := by cases args; simp_all
  obtain ⟨rfl, rfl⟩ := trodVars_none hV
  obtain ⟨a0, rfl, rfl, rfl, w0⟩ := open_string Try.underlying9 (hval 0 9 v0 rfl rfl) h0
  clear hA0 hval0
  simp only [List.append_nil] at hW'
  refine (walk a0 w0 W).mono fun e W' ⟨he, hg⟩ => ?_
  subst he
  exact ⟨_, rfl, law_post (pa := []) (pv := []) hW' (fun _ _ _ => (trodAll_cons_mk (shut_bool Try.underlying4 _) trodAll_mk0)) (fun sp _ => (trodAll_cons_mk (shut_string Try.underlying9 w0) trodAll_mk0)) (fun _ _ => rfl) rfl
    hg (ok_one (by kernel_rfl) rfl (okWide_bool_mk Try.underlying4 _))⟩

theorem over : Rows.pathNamesRow.holds Try.pinned (OpenSpec.ofChange Rows.pathNamesSpec) :=
  OpenClaim.holds_of_wide 7 Try.f7 rfl rfl rfl rfl rfl rfl rfl ⟨rfl, rfl, rfl, rfl, rfl⟩ rfl rfl rfl rfl rfl (by kernel_rfl) Try.func7 (by kernel_rfl)
    (of_decide_eq_true (by kernel_rfl)) (by unfold Func.isWrapper; first | (rw [if_pos (by decide +kernel)]; kernel_rfl) | (rw [if_neg (by decide +kernel)]; exact ⟨rfl, rfl⟩))
    (fun os started H enc _ => lifted os started H enc)

/-- The statement. -/
theorem proved : Rows.PathNamesSaid :=
  over
end Go.Proofs.Ytlaceeiodlpmdaa.pathNames
