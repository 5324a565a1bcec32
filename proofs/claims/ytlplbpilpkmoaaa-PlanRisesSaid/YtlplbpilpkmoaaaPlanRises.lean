/- An order rises, has each number once, is its own order, and is the same whichever way round the wants come; for any wants up to 100. -/
import Derived.Test.YtlplbpilpkmoaaaQz
import Derived.Deep.RegionWith
import Derived.Deep.QuietTactic
import Derived.BigQuiet
import Derived.Deep.CutRange
import Derived.Deep.CutBlock
import Derived.Deep.RegionHeld3
import Derived.ProofKit
import Derived.OpenShut
import Derived.Shelf.Abstract
namespace Go.Proofs.Ytlplbpilpkmoaaa.planRises
open Go.ChangeShapes Go.WideShapes Go.ChangeAt Go.RowKit
open Go.Proofs.Ytlplbpilpkmoaaa.pl
set_option linter.unusedVariables false

theorem own : ownKnob Try.prog.godebug = none := by kernel_rfl
theorem laid : laidOutB Try.prog = true := by kernel_rfl

theorem same_own {w : World} {lo lo' E E' : Nat} {u v : Value} {l : List Wt} (h1 : OW w lo E u l) (h2 : OW w lo' E' v l) (l1 : l.length ≤ 10000) : Calls Try.prog 11 #[u, v] w (RetB w true) := by
  obtain ⟨A, c, rfl⟩ := h1.form
  obtain ⟨B, d, rfl⟩ := h2.form
  exact same_yes h1.wan h2.wan l1
theorem own_own {w : World} {lo E : Nat} {v : Value} {l : List Wt} (h1 : OW w lo E v l) (l1 : l.length ≤ 10000) : Calls Try.prog 13 #[v] w (OwnE w l) := by
  obtain ⟨A, c, rfl⟩ := h1.form
  exact own_any h1.wan l1
theorem ord_wf {a o : List Wt} (h : IsOrd a o) (hw : ∀ x ∈ a, sc.Wf x.n) : ∀ x ∈ o, sc.Wf x.n := fun x hx => by
  obtain ⟨z, hz, e, _⟩ := h.summ.deep x hx
  rw [← e]; exact hw z hz
/-- The numbers of the first i. -/
structure MS (o : List Wt) (i : Nat) (f : Int → Option Value) : Prop where
  pl : ∀ a v, f a = some v → v = .bool true ∧ ∃ k : Nat, k < i ∧ (gw o k).n = a
  pn : ∀ k, k < i → f (gw o k).n ≠ none
theorem ms_start (o : List Wt) : MS o 0 (fun _ => none) := ⟨fun a v h => (nomatch h), fun k hk => by omega⟩
theorem MS.next {o : List Wt} {i : Nat} {f : Int → Option Value} (h : MS o i f) : MS o (i + 1) (sc.ups f (gw o i).n (.bool true)) := by
  refine ⟨fun a v hv => ?_, fun k hk => ?_⟩
  · by_cases e : a = (gw o i).n
    · subst e
      rw [ups_same] at hv
      injection hv with hv
      exact ⟨hv.symm, i, by omega, rfl⟩
    · rw [ups_other _ e] at hv
      obtain ⟨h0, k, hk, h1⟩ := h.pl a v hv
      exact ⟨h0, k, by omega, h1⟩
  · by_cases e : (gw o k).n = (gw o i).n
    · rw [e, ups_same]; simp
    · rw [ups_other _ e]
      exact h.pn k (by have : k ≠ i := fun e2 => e (by rw [e2]); omega)
theorem MS.not {l o : List Wt} (ho : IsOrd l o) {i : Nat} {f : Int → Option Value} (h : MS o i f) (hi : i < o.length) : f (gw o i).n = none := by
  cases e : f (gw o i).n with
  | none => rfl
  | some v =>
    obtain ⟨_, k, hk, e2⟩ := h.pl _ _ e
    rw [gw_get (by omega), gw_get hi] at e2
    have := ho.nums (by omega) hi e2
    omega
theorem MS.all {l o : List Wt} (ho : IsOrd l o) {f : Int → Option Value} (h : MS o o.length f) {x : Wt} (hx : x ∈ l) : f x.n = some (.bool true) := by
  obtain ⟨u, hu, e⟩ := ho.summ.all x hx
  obtain ⟨k, hk, rfl⟩ := mem_gw hu
  cases e2 : f x.n with
  | none => exact absurd (by rw [e]; exact e2) (h.pn k hk)
  | some v => rw [(h.pl _ _ e2).1]
theorem zeroB (w : World) : (zeroValue 4).run Try.prog w = .ok (.bool false) w := by kernel_rfl
theorem rise2 {l o : List Wt} (ho : IsOrd l o) {i : Nat} (hi : i + 1 < o.length) : (gw o i).d < (gw o (i + 1)).d ∨ ((gw o i).d = (gw o (i + 1)).d ∧ (gw o i).n < (gw o (i + 1)).n) := by
  rw [gw_get (by omega), gw_get hi]
  exact ho.at_ (Nat.lt_succ_self i) hi
set_option maxRecDepth 100000 in
set_option maxHeartbeats 4000000 in
theorem walk (A1 : Option Addr) (c1 : Nat) (a : List Wt) (w : World) (hc1 : a.length ≤ c1 ∧ c1 ≤ maxLen) (h1 : Wan w w.heap.size A1 a) (f1 : ∀ x ∈ a, sc.Wf x.n) :
    Calls Try.prog 5 #[.slice A1 a.length c1] w (RetB w true) := by
  have HAW := Lib.hid (awake_any w)
  have H1 := Lib.hid h1
  have F1 := Lib.hid f1
  obtain ⟨n, hn⟩ : ∃ n, a.length = n := ⟨_, rfl⟩
  rw [hn] at hc1 ⊢
  have HN := Lib.hid hn
  have hnx : n ≤ 9223372036854775807 := by have := hc1.1; have := hc1.2; unfold maxLen at this; omega
  obtain ⟨i0, hi, hz0, hz1, hz2⟩ := info_parts info_want
  have HI := Lib.hid hi
  have HZ := Lib.hid (show i0.zero = some (Wv ⟨0, 0, false⟩) ∧ i0.size = 3 ∧ i0.bytes = 24 from ⟨hz0, hz1, hz2⟩)
  clear h1 f1 hn hc1 hi hz0 hz1 hz2
  unfold RetB at HAW ⊢
  go_enter Try.func5, Try.ntmps5
  go_wp2_with fail
  refine HAW.out.mono ?_
  rintro _ w1 ⟨rfl, hb1⟩
  have HB1 := Lib.hid hb1
  clear hb1 HAW
  by_cases g1 : 100 < n
  · have g1' : (100 : Int) < (n : Int) := by omega
    go_wp2_with fail
    go_ret
    exact ⟨rfl, HB1.out⟩
  have g1' : ¬ (100 : Int) < (n : Int) := by omega
  have g3 : n ≤ 100 := by omega
  have HLA := Lib.hid (show a.length ≤ 100 from by rw [HN.out]; omega)
  have HO1 := Lib.hid (fun (W : World) (hb : Below w.heap.size w W) => (show Calls Try.prog 10 #[.slice A1 n c1] W (OrdE W a) from by rw [← HN.out]; exact order_any ((H1.out.below hb).le hb.size) F1.out (by rw [HN.out]; omega)))
  unfold OrdE at HO1
  clear g1
  go_wp2_with fail
  refine (HO1.out _ HB1.out).mono ?_
  rintro _ w2 ⟨v3, o, rfl, hord, how, hb⟩
  have HD := Lib.hid hord
  have HL2 := Lib.hid (how.weak HB1.out.size)
  have HB2 := Lib.hid (hp.below_step HB1.out hb)
  clear hord how hb HO1 HB1
  have HS2 := Lib.hid HB2.out.size
  go_wp2_with fail
  go_loopg [4, 19] n (fun gk u4 u19 wx => ∃ (i g c : Nat), u19 = .int .i64 i ∧ gk + i = n ∧ u4 = .slice (some ⟨g, 0, none⟩) i c ∧ Hid (OW wx w.heap.size 39 (.slice (some ⟨g, 0, none⟩) i c) (a.take i).reverse) ∧ Hid (OW wx w.heap.size 39 v3 o) ∧ Hid (Below w.heap.size w wx))
  case atStart =>
    refine ⟨0, _, _, rfl, by omega, rfl, Lib.hid ?_, Lib.hid (HL2.out.keep fun g e => (hp.below_alloc w2 _).block g (HL2.out.olt e).2), Lib.hid (HB2.out.alloc HS2.out _)⟩
    exact World.ownsRow_lit w2 #[] 0 HS2.out (by unfold maxLen; omega) rfl
  case round =>
    clear HL2 HB2 HS2
    obtain ⟨i, g, c, rfl, hg, rfl, HO, HL, HB⟩ := hrel
    obtain ⟨gJ, hJ⟩ : ∃ g, gk = g := ⟨_, rfl⟩
    by_cases hi : i < n
    · have hi2 : (i : Int) < (n : Int) := by omega
      obtain ⟨g1, o1, rfl, hg1, x1, x2, x3⟩ := (H1.out.below HB.out) i (by rw [HN.out]; exact hi)
      have HTK := Lib.hid (show (a.take (i + 1)).reverse = gw a i :: (a.take i).reverse from by rw [take_gw (by rw [HN.out]; exact hi), List.reverse_append]; rfl)
      have HLT := Lib.hid (show ((a.take i).reverse).length = i from by rw [List.length_reverse, List.length_take, HN.out]; omega)
      obtain ⟨x, hx⟩ : ∃ x, gw a i = x := ⟨_, rfl⟩
      rw [hx] at x1 x2 x3 HTK
      obtain ⟨xd, xn, xw⟩ := x
      dsimp only at x1 x2 x3
      have HSW := Lib.hid HB.out.size
      have HOG := Lib.hid (show g < wr.heap.size from (HO.out.olt rfl).2)
      have HNW := Lib.hid (show ∀ j u, (encW (a.take i).reverse)[j]? = some u → (wr.alloc (.cells #[.int .i64 xd, .int .i64 xn, .bool xw] 39)).cell? ((⟨g, 0, none⟩ : Addr).add j) = some u from fun j u hu => by
        have h := HO.out
        unfold OW at h
        exact World.ownsRow.cells (h.alloc _) rfl j u hu)
      have HEL := Lib.hid (show (encW (a.take i).reverse).length = i * 3 from by rw [encW_len, HLT.out])
      clear hx
      go_wp2_with (at_builtin; go_loud (refine wpList_append_own_at _ rfl (.tmp 26) (.tmp 27) 22 rfl w.heap.size 39 i0 _ 3 24 Try.underlying22 HI.out HZ.out.1 HZ.out.2.1 HZ.out.2.2 rfl (by decide) (.slice (some ⟨wr.heap.size, 0, none⟩) 1 1) 1 [.int .i64 xd, .int .i64 xn, .bool xw] rfl (World.ownsRow_lit wr #[.int .i64 xd, .int .i64 xn, .bool xw] 1 HSW.out (by unfold maxLen; omega) rfl) ⟨g, 0, none⟩ i c (encW (a.take i).reverse) rfl HEL.out HNW.out (encW_one _) (by unfold maxLen; omega) (by omega) (by have := HSW.out; simp; omega) ?_; intro v1 w5 hown1 hgrow1 _ hat1))
      have hz : (wr.alloc (.cells #[.int .i64 xd, .int .i64 xn, .bool xw] 39)).heap.size = wr.heap.size + 1 := by simp
      have HO5 := Lib.hid (show OW w5 w.heap.size 39 v1 (a.take (i + 1)).reverse from by
        unfold OW
        rw [HTK.out, List.length_cons, HLT.out, encW_cons, show i + 1 = 1 + i by omega]
        exact hown1)
      have HL5 := Lib.hid (HL.out.keep (w' := w5) fun g9 e => (hgrow1.block g9 (by rw [hz]; have := (HL.out.olt e).2; omega) (fun e2 => by simp [Value.ownBlock] at e2; have := (HL.out.olt e).2; omega)).trans ((hp.below_alloc wr _).block g9 (HL.out.olt e).2))
      have HB5 := Lib.hid ((HB.out.alloc HSW.out _).grown hgrow1 (by rw [hz]; have := HSW.out; omega) (fun g9 e => by simp [Value.ownBlock] at e; have := HSW.out; omega))
      have HL9 := Lib.hid (show ((a.take (i + 1)).reverse).length = i + 1 from by rw [HTK.out, List.length_cons, HLT.out])
      obtain ⟨g9, c9, e9, _⟩ := HO5.out.some_ (by rw [HL9.out]; omega)
      subst e9
      rw [HL9.out] at HO5 ⊢
      clear hown1 hgrow1 hat1 hz
      go_roundg (gJ - 1)
      case measure => omega
      case rel => exact ⟨i + 1, g9, c9, by go_num, by omega, rfl, HO5, HL5, HB5⟩
    · have hin : i = n := by omega
      have HBK := Lib.hid (show OW wr w.heap.size 39 (.slice (some ⟨g, 0, none⟩) i c) a.reverse from by have := HO.out; rw [hin, ← HN.out, List.take_length, HN.out, ← hin] at this; exact this)
      have HOR := Lib.hid (order_own HBK.out (fun x hx => F1.out x (List.mem_reverse.1 hx)) (by rw [List.length_reverse]; have := HLA.out; omega))
      unfold OrdE at HOR
      clear hin HO
      go_wp2_with fail
      refine HOR.out.mono ?_
      rintro _ w3 ⟨v31, o2, rfl, hord, how, hb⟩
      obtain rfl := (hord.cong (l' := a) (fun x => List.mem_reverse)).uniq HD.out
      have HQ3 := Lib.hid how
      have HL3 := Lib.hid (HL.out.keep (w' := w3) fun g e => hb.block g (HL.out.olt e).2)
      have HB3 := Lib.hid (hp.below_step HB.out hb)
      have HOL := Lib.hid (show o2.length ≤ 100 from Nat.le_trans HD.out.len HLA.out)
      have HW3 := Lib.hid (own_own HL3.out (by have := HOL.out; omega))
      unfold OwnE at HW3
      clear hord how hb HL HB HOR
      go_wp2_with fail
      refine HW3.out.mono ?_
      rintro _ w4 ⟨v33, rfl, how, hb⟩
      have HSM := Lib.hid (same_own (HQ3.out.keep (w' := w4) fun g e => hb.block g (HQ3.out.olt e).2) how (by have := HOL.out; omega))
      unfold RetB at HSM
      have HL4 := Lib.hid (HL3.out.keep (w' := w4) fun g e => hb.block g (HL3.out.olt e).2)
      have HB4 := Lib.hid (hp.below_step HB3.out hb)
      clear how hb HW3 HQ3 HL3 HB3
      go_wp2_with fail
      refine HSM.out.mono ?_
      rintro _ w5 ⟨rfl, hb⟩
      have HL5 := Lib.hid (HL4.out.keep (w' := w5) fun g e => hb.block g (HL4.out.olt e).2)
      have HB5 := Lib.hid (hp.below_step HB4.out hb)
      have HOR := Lib.hid (order_own HL5.out (ord_wf HD.out F1.out) (by have := HOL.out; omega))
      unfold OrdE at HOR
      clear hb HSM HL4 HB4
      go_wp2_with fail
      refine HOR.out.mono ?_
      rintro _ w6 ⟨v38, o3, rfl, hord, how, hb⟩
      obtain rfl : o2 = o3 := (HD.out.idem hord).symm
      have HQ6 := Lib.hid how
      have HL6 := Lib.hid (HL5.out.keep (w' := w6) fun g e => hb.block g (HL5.out.olt e).2)
      have HB6 := Lib.hid (hp.below_step HB5.out hb)
      have HW6 := Lib.hid (own_own HL6.out (by have := HOL.out; omega))
      unfold OwnE at HW6
      clear hord how hb HL5 HB5 HOR
      go_wp2_with fail
      refine HW6.out.mono ?_
      rintro _ w7 ⟨v40, rfl, how, hb⟩
      have HSM := Lib.hid (same_own (HQ6.out.keep (w' := w7) fun g e => hb.block g (HQ6.out.olt e).2) how (by have := HOL.out; omega))
      unfold RetB at HSM
      have HL7 := Lib.hid (HL6.out.keep (w' := w7) fun g e => hb.block g (HL6.out.olt e).2)
      have HB7 := Lib.hid (hp.below_step HB6.out hb)
      clear how hb HW6 HQ6 HL6 HB6
      go_wp2_with fail
      refine HSM.out.mono ?_
      rintro _ w8 ⟨rfl, hb⟩
      have HL8 := Lib.hid (HL7.out.keep (w' := w8) fun g e => hb.block g (HL7.out.olt e).2)
      have HB8 := Lib.hid (hp.below_step HB7.out hb)
      clear hb HSM HL7 HB7
      obtain ⟨o, ho⟩ : ∃ o, o2 = o := ⟨_, rfl⟩
      subst ho
      obtain ⟨m, hm⟩ : ∃ m, w8.heap.size = m := ⟨_, rfl⟩
      have HMM := Lib.hid hm
      have hmm := @run_makeMap Try.prog 40 w8
      obtain ⟨A3, c3, rfl⟩ := HL8.out.form
      obtain ⟨q, hq⟩ : ∃ q, o2.length = q := ⟨_, rfl⟩
      have HQ := Lib.hid hq
      have hq100 : q ≤ 100 := by have := HOL.out; omega
      rw [hq] at HL8 ⊢
      have HM0 := Lib.hid (show sc.MapV (w8.alloc (.map #[] 0)) m 0 0 (fun _ => none) from by rw [← HMM.out]; exact sc.MapV.made w8)
      have HOW := Lib.hid (ord_wf HD.out F1.out)
      have HLT := Lib.hid (fun g (e : (Value.slice A3 q c3).ownBlock = some g) => (show w.heap.size ≤ g ∧ g < m from by rw [← HMM.out]; exact HL8.out.olt e))
      have HSM := Lib.hid (show w.heap.size ≤ m from by rw [← HMM.out]; exact HB8.out.size)
      clear hq
      go_wp2_with fail
      clear hm hmm
      go_loopg [47] q (fun gk u47 wx => ∃ (i : Nat) (f : Int → Option Value) (S : Nat), u47 = .int .i64 i ∧ gk + i = q ∧ Hid (sc.MapV wx m i S f) ∧ Hid (MS o2 i f) ∧ Hid (OW wx w.heap.size 39 (.slice A3 q c3) o2) ∧ Hid (Below w.heap.size w wx))
      case atStart => exact ⟨0, fun _ => none, 0, rfl, by omega, HM0, Lib.hid (ms_start o2), Lib.hid (HL8.out.keep fun g e => (hp.below_alloc w8 _).block g (HL8.out.olt e).2), Lib.hid (HB8.out.alloc HB8.out.size _)⟩
      case round =>
        clear HL8 HB8 HM0
        obtain ⟨i, f, S, rfl, hgi, HMV, HMS, HL, HB⟩ := hrel
        obtain ⟨gJ, hJ⟩ : ∃ g, gk = g := ⟨_, rfl⟩
        by_cases hi : i < q
        · have hi2 : (i : Int) < (q : Int) := by omega
          obtain ⟨g1, o1, rfl, hg1, x1, x2, x3⟩ := HL.out.wan i (by rw [HQ.out]; exact hi)
          have HNO := Lib.hid (HMS.out.not HD.out (by rw [HQ.out]; exact hi))
          have HNX := Lib.hid HMS.out.next
          have HWX := Lib.hid (HOW.out (gw o2 i) (gw_mem (by rw [HQ.out]; exact hi)))
          obtain ⟨x, hx⟩ : ∃ x, gw o2 i = x := ⟨_, rfl⟩
          have HX := Lib.hid hx
          rw [hx] at x1 x2 x3 HNO HNX HWX
          obtain ⟨xd, xn, xw⟩ := x
          dsimp only at x1 x2 x3 HNO HNX HWX
          have hlk : ∀ k : Nat, (Instr.lookup 40 (.map (some m)) (.int .i64 xn) false).run Try.prog (wr.drewN k) = .ok (.bool false) (wr.drewN k) := fun k => by
            have := (show sc.MapV (wr.drewN k) m i S f from HMV.out.of_block rfl).look Try.underlying40 (zeroB _) HWX.out
            rw [HNO.out] at this
            exact this
          have HPUT := Lib.hid (fun (k : Nat) => (show sc.MapV (wr.drewN k) m i S f from HMV.out.of_block rfl).put Try.underlying40 (by omega) HWX.out (.bool true))
          have HLO := Lib.hid HLT.out
          clear hx
          rcases Nat.eq_zero_or_pos i with h0 | h0
          · subst h0
            go_wp2_with fail
            go_quiet (fail)
            obtain ⟨w9, hrun, hm9, hg9⟩ := HPUT.out nq
            have HM9 := Lib.hid hm9
            have HL9 := Lib.hid (HL.out.keep (w' := w9) fun g e => hg9.block g (HL.out.olt e).2 (fun e2 => by injection e2 with e2; have := (HLO.out g e).2; omega))
            have HB9 := Lib.hid ((below_drewN HB.out nq).grown hg9 (by show w.heap.size ≤ wr.heap.size; exact HB.out.size) (fun g e => by injection e with e; have := HSM.out; omega))
            clear hm9 hg9
            go_wp2_with fail
            go_roundg (gJ - 1)
            case measure => omega
            case rel => exact ⟨0 + 1, _, _, by go_num, by omega, HM9, HNX, HL9, HB9⟩
          · obtain ⟨i1, rfl⟩ : ∃ i1, i = i1 + 1 := ⟨i - 1, by omega⟩
            have HR2 := Lib.hid (rise2 HD.out (i := i1) (by rw [HQ.out]; exact hi))
            obtain ⟨b2, o2', e, _, y1, y2, y3⟩ := HL.out.wan i1 (by rw [HQ.out]; omega)
            injection e with e
            injection e with e1 e2
            subst e1 e2
            rw [HX.out] at HR2
            obtain ⟨y, hy⟩ : ∃ y, gw o2 i1 = y := ⟨_, rfl⟩
            rw [hy] at y1 y2 y3 HR2
            obtain ⟨yd, yn, yw⟩ := y
            dsimp only at y1 y2 y3 HR2
            have hsub : ((i1 + 1 : Nat) : Int) - 1 = (i1 : Int) := by omega
            have hpos : (0 : Int) < ((i1 + 1 : Nat) : Int) := by omega
            have hlt1 : i1 < q := by omega
            have hlt2 : (i1 : Int) < (q : Int) := by omega
            clear hy x3 y3
            by_cases hd : yd = xd
            · subst hd
              have hn1 : yn < xn := by have := HR2.out; omega
              have hn2 : ¬ xn ≤ yn := by omega
              have hn3 : decide (xn ≤ yn) = false := decide_eq_false hn2
              go_wp2_with fail
              go_quiet (fail)
              obtain ⟨w9, hrun, hm9, hg9⟩ := HPUT.out nq
              have HM9 := Lib.hid hm9
              have HL9 := Lib.hid (HL.out.keep (w' := w9) fun g e => hg9.block g (HL.out.olt e).2 (fun e2 => by injection e2 with e2; have := (HLO.out g e).2; omega))
              have HB9 := Lib.hid ((below_drewN HB.out nq).grown hg9 (by show w.heap.size ≤ wr.heap.size; exact HB.out.size) (fun g e => by injection e with e; have := HSM.out; omega))
              clear hm9 hg9
              go_wp2_with fail
              go_roundg (gJ - 1)
              case measure => omega
              case rel => exact ⟨i1 + 1 + 1, _, _, by go_num, by omega, HM9, HNX, HL9, HB9⟩
            · have hd1 : yd < xd := by have := HR2.out; omega
              have hd2 : ¬ xd < yd := by omega
              have hd3 : decide (xd < yd) = false := decide_eq_false hd2
              have hd4 : (xd == yd) = false := by simp; omega
              go_wp2_with fail
              go_quiet (fail)
              obtain ⟨w9, hrun, hm9, hg9⟩ := HPUT.out nq
              have HM9 := Lib.hid hm9
              have HL9 := Lib.hid (HL.out.keep (w' := w9) fun g e => hg9.block g (HL.out.olt e).2 (fun e2 => by injection e2 with e2; have := (HLO.out g e).2; omega))
              have HB9 := Lib.hid ((below_drewN HB.out nq).grown hg9 (by show w.heap.size ≤ wr.heap.size; exact HB.out.size) (fun g e => by injection e with e; have := HSM.out; omega))
              clear hm9 hg9
              go_wp2_with fail
              go_roundg (gJ - 1)
              case measure => omega
              case rel => exact ⟨i1 + 1 + 1, _, _, by go_num, by omega, HM9, HNX, HL9, HB9⟩
        · have hiq : i = q := by omega
          subst hiq
          have HALL := Lib.hid (fun x (hx : x ∈ a) => MS.all HD.out (by rw [HQ.out]; exact HMS.out) hx)
          go_wp2_with fail
          go_loopg [112] n (fun gk u112 wx => ∃ k : Nat, u112 = .int .i64 k ∧ gk + k = n ∧ wr = wx)
          case atStart => exact ⟨0, rfl, by omega, rfl⟩
          case round =>
            obtain ⟨k, rfl, hgk, rfl⟩ := hrel
            by_cases hk : k < n
            · have hk2 : (k : Int) < (n : Int) := by omega
              obtain ⟨g1, o1, rfl, hg1, x1, x2, x3⟩ := (H1.out.below HB.out) k (by rw [HN.out]; exact hk)
              have hmem : gw a k ∈ a := gw_mem (by rw [HN.out]; exact hk)
              have HWX := Lib.hid (F1.out _ hmem)
              have HTR := Lib.hid (HALL.out _ hmem)
              obtain ⟨x, hx⟩ : ∃ x, gw a k = x := ⟨_, rfl⟩
              rw [hx] at x1 x2 x3 HTR HWX
              obtain ⟨xd, xn, xw⟩ := x
              dsimp only at x1 x2 x3 HTR HWX
              have hlk := HMV.out.look Try.underlying40 (zeroB _) HWX.out
              rw [HTR.out] at hlk
              simp only [Option.getD] at hlk
              clear hx hmem
              go_wp2_with fail
              go_roundg (gk - 1)
              case measure => omega
              case rel => exact ⟨k + 1, by go_num, by omega, rfl⟩
            · go_wp2_with fail
              go_ret
              exact ⟨rfl, HB.out⟩

set_option maxRecDepth 100000 in
theorem lifted (os : Os) (started : os.Started) (H : Type) (enc : TypeId × Value → H) :
    ReturnsInHanded {} Try.checked os 5 .any (Rows.planRisesSpec.pre6 enc Try.prog Try.f5 Rows.planRisesRow.domain false) (Rows.planRisesSpec.post enc Try.prog Try.f5 false true false false) := by
  refine returnsInHanded_of_change (C := Try.checked) own started (by kernel_rfl) Try.func5
    (ChangeSpec.witness6 (enc := enc) (C := Try.checked) false ⟨#[], #[.slice none 0 0], []⟩ 8 (by kernel_rfl) (by kernel_rfl) (by kernel_rfl) (by kernel_rfl)) ?_
  intro W base args ds gs before hval0 hW hcnd _
  have hval : ∀ (j : Nat) t v, Try.f5.params[j]? = some t → args[j]? = some v → Value.okWide Try.prog W .any base t v := hval0
  have hW' := hW
  obtain ⟨p, q, hA0, hV, rfl, hfz, hnd⟩ := hW
  have hA : DataW.TrodAll enc Try.prog W 0 (fun _ => true) true Try.f5.params.toList args.toList ds p := hA0
  rw [Try.params5] at hA hval
  obtain ⟨v0, vs0, d0, ds0, p0, q0, hargs, rfl, rfl, h0, r0⟩ := trodAll_cons hA
  obtain ⟨rfl, rfl, rfl⟩ := trodAll_nil r0
  obtain rfl : args = #[v0] := by cases args; simp_all
  obtain ⟨rfl, rfl⟩ := trodVars_none hV
  have hlt := fun x hx => hW'.lt x hx
  have t0 := h0
  obtain ⟨A0, c0, x0, rfl, e0, s0, f0⟩ := open_wants (hval 0 22 v0 rfl rfl) h0
  clear hA0 hval0
  refine (walk A0 c0 x0 W e0 s0 f0).mono fun e W' ⟨he, hg⟩ => ?_
  subst he
  exact ⟨_, rfl, law_post (pv := []) hW' (fun _ _ _ => (trodAll_cons_mk (shut_bool Try.underlying4 _) trodAll_mk0)) (fun sp hsp => (trodAll_cons_mk (arg_stays (by decide) t0 hg (by simp +contextual) hlt hsp laid) trodAll_mk0)) (fun _ _ => rfl) (by simp)
    hg (ok_one (by kernel_rfl) rfl (okWide_bool_mk Try.underlying4 _))⟩

theorem over : Rows.planRisesRow.holds Try.pinned (OpenSpec.ofChange Rows.planRisesSpec) :=
  OpenClaim.holds_of_wide 5 Try.f5 rfl rfl rfl rfl rfl rfl rfl ⟨rfl, rfl, rfl, rfl, rfl⟩ rfl rfl rfl rfl rfl (by kernel_rfl) Try.func5 (by kernel_rfl)
    (of_decide_eq_true (by kernel_rfl)) (by unfold Func.isWrapper; first | (rw [if_pos (by decide +kernel)]; kernel_rfl) | (rw [if_neg (by decide +kernel)]; exact ⟨rfl, rfl⟩))
    (fun os started H enc _ => lifted os started H enc)

/-- The statement. -/
theorem proved : Rows.PlanRisesSaid :=
  over
end Go.Proofs.Ytlplbpilpkmoaaa.planRises
