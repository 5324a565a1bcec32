/- For every two texts and every number of slashes and dots the law PathSlashes returns true, and the texts read as they did; there are no conditions. -/
import Derived.Test.YtlaceeiodlpmdaaAwake
import Derived.Test.YtlaceeiodlpmdaaSlash
import Derived.Test.YtlaceeiodlpmdaaFrame
import Derived.ProofKit
import Derived.OpenShut
import Derived.ShutString
namespace Go.Proofs.Ytlaceeiodlpmdaa.pathSlashes
open Go.ChangeShapes Go.WideShapes Go.ChangeAt Go.RowKit
open Go.ChangeMaps (open_string shut_string)
set_option linter.unusedVariables false      -- a walk need not use every 'w<i>' (that an integer argument fits its kind)

theorem own : ownKnob Try.prog.godebug = none := by kernel_rfl

set_option maxHeartbeats 1000000 in
theorem walk_no (a b : ByteArray) (k : Nat) (_hk : k ≤ 255) (w : World) (hp : ¬ (perr a.data.toList = 0 ∧ perr b.data.toList = 0)) : Calls Try.prog 6 #[.string a, .string b, .int .u8 (k : Int)] w (AwakeE w) := by
  have hP := fun w => parse_any a w
  have hQ := fun w => parse_any b w
  unfold ParseE at hP hQ
  have HP := Lib.hid hp
  clear hp
  have hcase : ∀ n m : Int, perr a.data.toList = n → perr b.data.toList = m → (n != 0) = true ∨ ((n != 0) = false ∧ (m != 0) = true) := by
    intro n m hn hm
    by_cases h : n = 0
    · refine .inr ⟨by simp [h], ?_⟩
      rw [bne_iff_ne]
      intro h2
      exact HP.out ⟨by rw [hn, h], by rw [hm, h2]⟩
    · exact .inl (by rw [bne_iff_ne]; exact h)
  have HC := hcase _ _ rfl rfl
  clear hcase HP
  generalize perr a.data.toList = n at *
  generalize perr b.data.toList = m at *
  generalize pnames a.data.toList = xs at *
  generalize pnames b.data.toList = ys at *
  generalize pdirE a.data.toList = d at *
  generalize pdirE b.data.toList = d' at *
  rcases HC with h1 | ⟨h1, h2⟩
  all_goals
    go_enter Try.func6, Try.ntmps6
    go_wp2_with (go_at_call 12; refine (awake_any _).mono ?_; rintro e w1 ⟨rfl, hb1⟩)
    refine (hP _).mono ?_
    rintro e w2 ⟨A, c, rfl, -, hb2⟩
    replace hb1 := hb1.trans ((hb2.trans ((below_alloc w2 (.cells #[.slice A xs.length c, .bool d] 25)).mono hb2.size)).mono hb1.size)
    clear hb2
    go_wp2_with fail
    refine (hQ _).mono ?_
    rintro e w3 ⟨A', c', rfl, -, hb3⟩
    replace hb1 := hb1.trans ((hb3.trans ((below_alloc w3 (.cells #[.slice A' ys.length c', .bool d'] 25)).mono hb3.size)).mono hb1.size)
    clear hb3
    go_wp2_with fail
    go_ret
    exact ⟨rfl, hb1⟩

theorem size_app (a b : ByteArray) : (a ++ b).size = a.size + b.size := ByteArray.size_append

theorem sv_app (x y : Bs) : Sv (x ++ y) = Value.string ((⟨x.toArray⟩ : ByteArray) ++ ⟨y.toArray⟩) := by
  refine congrArg Value.string ?_
  apply ByteArray.ext
  simp
theorem below_alloc' {B : Nat} {w w' : World} (_h : Below B w w') {o : Obj} (hB : B ≤ w'.heap.size) : Below B w' (w'.alloc o) := (Below.refl _ _).alloc hB _

def MidE (w : World) (N : Nat) (xs ys : List Bs) (d : Bool) (e : Ending) (w' : World) : Prop :=
  ((400 < N ∨ 40 < xs.length + ys.length) ∧ ∃ A c, e = .returned (.tuple #[Pv A 0 c false, .int .i64 36]) ∧ Below w.heap.size w w') ∨
  ((N ≤ 400 ∧ xs.length + ys.length ≤ 40) ∧ ∃ A c, e = .returned (.tuple #[Pv A (xs.length + ys.length) c d, .int .i64 0]) ∧ Strs w' w'.heap.size A (xs ++ ys) ∧ Below w.heap.size w w')
theorem parse_mid (a b : ByteArray) (j : Nat) (w : World) (hp : perr a.data.toList = 0) (hq : perr b.data.toList = 0) :
    Calls Try.prog 13 #[.string (a ++ ⟨(midL j).toArray⟩ ++ b)] w (MidE w (a.size + (midL j).length + b.size) (nms a.data.toList) (nms b.data.toList) (pdir b.data.toList)) := by
  refine (parse_any _ w).mono ?_
  have el : (a ++ (⟨(midL j).toArray⟩ : ByteArray) ++ b).data.toList = a.data.toList ++ midL j ++ b.data.toList := by simp
  have en : (a.data.toList ++ midL j ++ b.data.toList).length = a.size + (midL j).length + b.size := by
    rw [List.length_append, List.length_append, Lib.size_eq, Lib.size_eq]
  have hz := perr_midL j a.data.toList b.data.toList hp hq
  rw [en] at hz
  rintro e w' ⟨A, c, he, ho, hb⟩
  rw [el] at he ho
  by_cases h : 400 < a.size + (midL j).length + b.size ∨ 40 < (nms a.data.toList).length + (nms b.data.toList).length
  · rw [if_pos h] at hz
    rw [pnames_no (by rw [hz]; decide), pdirE_no (by rw [hz]; decide), hz] at he
    exact .inl ⟨h, A, c, he, hb⟩
  · rw [if_neg h] at hz
    rw [pnames_ok hz, pdirE_ok hz, hz, pdir_midL j _ _ (perr_zero.1 hq).1, nms_midL, List.length_append] at he
    rw [pnames_ok hz, nms_midL] at ho
    exact .inr ⟨⟨by omega, by omega⟩, A, c, he, ho.strs, hb⟩

set_option maxHeartbeats 4000000 in
theorem walk_yes (a b : ByteArray) (k : Nat) (hk : k ≤ 255) (w : World) (hp : perr a.data.toList = 0) (hq : perr b.data.toList = 0) : Calls Try.prog 6 #[.string a, .string b, .int .u8 (k : Int)] w (AwakeE w) := by
  have hP := fun w => parse_any a w
  have hQ := fun w => parse_any b w
  unfold ParseE at hP hQ
  rw [pnames_ok hp, pdirE_ok hp, hp] at hP
  rw [pnames_ok hq, pdirE_ok hq, hq] at hQ
  have hxs := (perr_zero.1 hp).2.2.2.2
  have hys := (perr_zero.1 hq).2.2.2.2
  have hza : a.size ≤ 400 := by rw [Lib.size_eq]; exact (perr_zero.1 hp).2.1
  have hzb : b.size ≤ 400 := by rw [Lib.size_eq]; exact (perr_zero.1 hq).2.1
  have HR := Lib.hid (fun j w => parse_mid a b j w hp hq)
  generalize nms a.data.toList = xs at *
  generalize nms b.data.toList = ys at *
  generalize pdir a.data.toList = d at *
  generalize pdir b.data.toList = d' at *
  clear hp hq
  go_enter Try.func6, Try.ntmps6
  go_wp2_with (go_at_call 12; refine (awake_any _).mono ?_; rintro e w1 ⟨rfl, hb1⟩)
  refine (hP _).mono ?_
  rintro e w2 ⟨A, c, rfl, o2, hb2⟩
  have hb2' := (below_alloc w2 (.cells #[.slice A xs.length c, .bool d] 25))
  have p2 := Box.new w2 (.slice A xs.length c) (.bool d) 25
  have u2 := o2.strs.below hb2'
  replace hb1 := hb1.trans ((hb2.trans (hb2'.mono hb2.size)).mono hb1.size)
  clear o2 hb2 hb2'
  go_wp2_with fail
  refine (hQ _).mono ?_
  rintro e w3 ⟨A', c', rfl, o3, hb3⟩
  have hb3' := hb3.trans ((below_alloc w3 (.cells #[.slice A' ys.length c', .bool d'] 25)).mono hb3.size)
  have p3 := Box.new w3 (.slice A' ys.length c') (.bool d') 25
  have u3 := o3.strs.below (below_alloc w3 (.cells #[.slice A' ys.length c', .bool d'] 25))
  replace u2 := u2.below (hb3'.mono (Nat.le_of_lt p2.lt))
  replace p2 := p2.keep hb3'
  replace hb1 := hb1.trans (hb3'.mono hb1.size)
  clear o3 hb3 hb3'
  go_wp2_with fail
  go_loopg [11, 12] (k % 6) (fun g s11 i wy => ∃ j : Nat, j ≤ k % 6 ∧ g + j = k % 6 ∧ i = .int .i64 j ∧ s11 = Sv (midL j) ∧ Below (w3.alloc (.cells #[.slice A' ys.length c', .bool d'] 25)).heap.size (w3.alloc (.cells #[.slice A' ys.length c', .bool d'] 25)) wy)
  case atStart => exact ⟨0, by omega, by omega, rfl, rfl, Below.refl _ _⟩
  case round =>
    obtain ⟨j, hj, hg, rfl, rfl, hby⟩ := hrel
    have hm5 : k % 6 ≤ 5 := by omega
    have hl := midL_len j
    by_cases hjm : j < k % 6
    · by_cases hpar : j % 2 = 0
      · have hj2 : (j : Int) % 2 = 0 := by omega
        have HM := Lib.hid (show midL (j + 1) = midL j ++ [47] by rw [midL, if_pos hpar])
        clear hpar
        go_wp2
        go_roundg (gk - 1)
        case measure => omega
        case rel =>
          refine ⟨j + 1, by omega, by omega, by go_num, ?_, hby.trans (below_alloc' hby (hby.size))⟩
          rw [HM.out, sv_app]
      · have hj2 : (j : Int) % 2 = 1 := by omega
        have HM := Lib.hid (show midL (j + 1) = midL j ++ [46, 47] by rw [midL, if_neg hpar])
        clear hpar
        go_wp2
        go_roundg (gk - 1)
        case measure => omega
        case rel =>
          refine ⟨j + 1, by omega, by omega, by go_num, ?_, hby.trans (below_alloc' hby (hby.size))⟩
          rw [HM.out, sv_app]
    · have hje : j = k % 6 := by omega
      have hjl : ¬ ((j : Int) < (k : Int) % 6) := by omega
      have hR := HR.out j
      have hbB := hb1.trans (hby.mono hb1.size)
      replace u2 := u2.below (hby.mono (Nat.le_of_lt p2.lt))
      replace u3 := u3.below (hby.mono (Nat.le_of_lt p3.lt))
      replace p2 := p2.keep hby
      replace p3 := p3.keep hby
      clear hje hjm hby hb1 HR hg
      generalize hM : midL j = M at *
      clear hM
      have hMl : M.length ≤ 11 := by omega
      go_wp2_with fail
      refine (hR _).mono ?_
      rintro e w4 (⟨hbig, A4, c4, rfl, hb4⟩ | ⟨hsm, A4, c4, rfl, u4, hb4⟩)
      · have p4 := Box.new w4 (.slice A4 0 c4) (.bool false) 25
        have hb4' := hb4.trans ((below_alloc w4 (.cells #[.slice A4 0 c4, .bool false] 25)).mono hb4.size)
        replace p2 := p2.keep hb4'
        replace p3 := p3.keep hb4'
        have q0 := p2.c0
        have r0 := p3.c0
        have hbC := hbB.trans (hb4'.mono hbB.size)
        clear hbB hb4 hb4' u2 u3
        rcases hbig with hbig | hbig
        · go_wp2
          all_goals (go_ret; exact ⟨rfl, hbC⟩)
        · go_wp2
          all_goals (go_ret; exact ⟨rfl, hbC⟩)
      · obtain ⟨hs1, hs2⟩ := hsm
        have p4 := Box.new w4 (.slice A4 (xs.length + ys.length) c4) (.bool d') 25
        have hb4' := hb4.trans ((below_alloc w4 (.cells #[.slice A4 (xs.length + ys.length) c4, .bool d'] 25)).mono hb4.size)
        replace u4 := u4.below (below_alloc w4 (.cells #[.slice A4 (xs.length + ys.length) c4, .bool d'] 25))
        replace u2 := u2.below (hb4'.mono (Nat.le_of_lt p2.lt))
        replace u3 := u3.below (hb4'.mono (Nat.le_of_lt p3.lt))
        replace p2 := p2.keep hb4'
        replace p3 := p3.keep hb4'
        have q0 := p2.c0
        have q1 := p2.c1
        have r0 := p3.c0
        have r1 := p3.c1
        have hbC := hbB.trans (hb4'.mono hbB.size)
        clear hbB hb4 hb4' hR
        go_wp2_with fail
        refine (join_yes A A' xs.length c ys.length c' _ d d' xs ys _ hs2 rfl rfl (Nat.max_le.2 ⟨Nat.le_of_lt p2.lt, Nat.le_of_lt p3.lt⟩) (u2.more (Nat.le_max_left _ _)) (u3.more (Nat.le_max_right _ _))).mono ?_
        rintro e w5 ⟨A5, c5, rfl, o5, hb5⟩
        rw [List.length_append]
        generalize joinDir ys d d' = d5 at *
        have hb5' := hb5.trans ((below_alloc w5 (.cells #[.slice A5 (xs.length + ys.length) c5, .bool d5] 25)).mono hb5.size)
        have p5 := Box.new w5 (.slice A5 (xs.length + ys.length) c5) (.bool d5) 25
        have u5' := o5.strs.below (below_alloc w5 (.cells #[.slice A5 (xs.length + ys.length) c5, .bool d5] 25))
        replace u4 := u4.below (hb5'.mono (Nat.le_of_lt p4.lt))
        replace p3 := p3.keep hb5'
        replace p4 := p4.keep hb5'
        have hbD := hbC.trans (hb5'.mono hbC.size)
        clear q0 q1 r0 r1 p2 u2 u3 hbC hb5 hb5' o5
        have r1 := p3.c1
        have s0 := p4.c0
        have s1 := p4.c1
        have t0 := p5.c0
        have HZ := Lib.hid (show (xs ++ ys).length = xs.length + ys.length from List.length_append)
        have HN2 := Lib.hid hs2
        have hN : xs.length + ys.length ≤ 40 := hs2
        clear hs1 hs2 hl hm5 hjl p3
        go_wp2_with fail
        go_loopg [17, 111] (xs.length + ys.length) (fun g _ i wy => ∃ q : Nat, q ≤ xs.length + ys.length ∧ g + q = xs.length + ys.length ∧ i = .int .i64 q ∧ ∃ nq, (w5.alloc (.cells #[.slice A5 (xs.length + ys.length) c5, .bool d5] 25)).drewN nq = wy)
        case atStart => exact ⟨0, by omega, by omega, rfl, 0, rfl⟩
        case round =>
          obtain ⟨q, hq, hg, rfl, nq, rfl⟩ := hrel
          by_cases hqn : q < xs.length + ys.length
          · obtain ⟨ad, x, rfl, hab, hx, hcx⟩ := u4.get (k := q) (by rw [HZ.out]; exact hqn)
            obtain ⟨ad', x', rfl, hab', hx', hcx'⟩ := u5'.get (k := q) (by rw [HZ.out]; exact hqn)
            obtain rfl : x = x' := by rw [hx] at hx'; exact Option.some.inj hx'
            clear hx hx'
            go_wp2
            go_quiet (fail)
            go_wp2
            go_roundg (gk - 1)
            case measure => omega
            case rel => exact ⟨q + 1, by omega, by omega, by go_num, _, rfl⟩
          · go_wp2
            go_ret
            exact ⟨rfl, below_drewN hbD _⟩

theorem walk (a0 : ByteArray) (a1 : ByteArray) (a2 : Int) (_w0 : a0.size ≤ maxLen) (_w1 : a1.size ≤ maxLen) (w2 : (Lit.int .u8 a2).wf = true) (w : World) : Calls Try.prog 6 #[.string a0, .string a1, .int .u8 a2] w (AwakeE w) := by
  have hb : 0 ≤ a2 ∧ a2 ≤ 255 := by
    have := bounds_u8 w2
    omega
  obtain ⟨k, rfl⟩ := Int.eq_ofNat_of_zero_le hb.1
  by_cases h : perr a0.data.toList = 0 ∧ perr a1.data.toList = 0
  · exact walk_yes a0 a1 k (by omega) w h.1 h.2
  · exact walk_no a0 a1 k (by omega) w h

set_option maxRecDepth 100000 in
theorem lifted (os : Os) (started : os.Started) (H : Type) (enc : TypeId × Value → H) :
    ReturnsInHanded {} Try.checked os 6 .any (Rows.pathSlashesSpec.pre6 enc Try.prog Try.f6 Rows.pathSlashesRow.domain false) (Rows.pathSlashesSpec.post enc Try.prog Try.f6 false true false false) := by
  refine returnsInHanded_of_change (C := Try.checked) own started (by kernel_rfl) Try.func6
    (ChangeSpec.witness6 (enc := enc) (C := Try.checked) false ⟨#[], #[.string ByteArray.empty, .string ByteArray.empty, .int .u8 0], []⟩ 8 (by kernel_rfl) (by kernel_rfl) (by kernel_rfl) (by kernel_rfl)) ?_
  intro W base args ds gs before hval0 hW hcnd _
  have hval : ∀ (j : Nat) t v, Try.f6.params[j]? = some t → args[j]? = some v → Value.okWide Try.prog W .any base t v := hval0
  have hW' := hW
  obtain ⟨p, q, hA0, hV, rfl, hfz, hnd⟩ := hW
  have hA : DataW.TrodAll enc Try.prog W 0 (fun _ => true) true Try.f6.params.toList args.toList ds p := hA0
  rw [Try.params6] at hA hval
  obtain ⟨v0, vs0, d0, ds0, p0, q0, hargs, rfl, rfl, h0, r0⟩ := trodAll_cons hA
  obtain ⟨v1, vs1, d1, ds1, p1, q1, rfl, rfl, rfl, h1, r1⟩ := trodAll_cons r0
  obtain ⟨v2, vs2, d2, ds2, p2, q2, rfl, rfl, rfl, h2, r2⟩ := trodAll_cons r1
  obtain ⟨rfl, rfl, rfl⟩ := trodAll_nil r2
  obtain rfl : args = #[v0, v1, v2] := by cases args; simp_all
  obtain ⟨rfl, rfl⟩ := trodVars_none hV
  obtain ⟨a0, rfl, rfl, rfl, w0⟩ := open_string Try.underlying9 (hval 0 9 v0 rfl rfl) h0
  obtain ⟨a1, rfl, rfl, rfl, w1⟩ := open_string Try.underlying9 (hval 1 9 v1 rfl rfl) h1
  obtain ⟨a2, rfl, rfl, rfl, w2⟩ := open_int Try.underlying5 (hval 2 5 v2 rfl rfl) h2
  clear hA0 hval0
  simp only [List.append_nil] at hW'
  refine (walk a0 a1 a2 w0 w1 w2 W).mono fun e W' ⟨he, hg⟩ => ?_
  subst he
  exact ⟨_, rfl, law_post (pa := []) (pv := []) hW' (fun _ _ _ => (trodAll_cons_mk (shut_bool Try.underlying4 _) trodAll_mk0)) (fun sp _ => (trodAll_cons_mk (shut_string Try.underlying9 w0) (trodAll_cons_mk (shut_string Try.underlying9 w1) (trodAll_cons_mk (shut_int Try.underlying5 w2) trodAll_mk0)))) (fun _ _ => rfl) rfl
    hg (ok_one (by kernel_rfl) rfl (okWide_bool_mk Try.underlying4 _))⟩

theorem over : Rows.pathSlashesRow.holds Try.pinned (OpenSpec.ofChange Rows.pathSlashesSpec) :=
  OpenClaim.holds_of_wide 6 Try.f6 rfl rfl rfl rfl rfl rfl rfl ⟨rfl, rfl, rfl, rfl, rfl⟩ rfl rfl rfl rfl rfl (by kernel_rfl) Try.func6 (by kernel_rfl)
    (of_decide_eq_true (by kernel_rfl)) (by unfold Func.isWrapper; first | (rw [if_pos (by decide +kernel)]; kernel_rfl) | (rw [if_neg (by decide +kernel)]; exact ⟨rfl, rfl⟩))
    (fun os started H enc _ => lifted os started H enc)

/-- The statement. -/
theorem proved : Rows.PathSlashesSaid :=
  over
end Go.Proofs.Ytlaceeiodlpmdaa.pathSlashes
