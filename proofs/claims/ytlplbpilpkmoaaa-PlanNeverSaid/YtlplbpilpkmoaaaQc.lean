/- The document's 'Order': each number once. -/
import Derived.Test.YtlplbpilpkmoaaaQb
import Derived.Deep.AppendLies
import Derived.Maps.AppendAt
import Derived.Test.YtlplbpilpkmoaaaMr
namespace Go.Proofs.Ytlplbpilpkmoaaa.pl
open Go.RowKit
set_option linter.unusedVariables false
set_option linter.unusedSimpArgs false

structure P1 (l one : List Wt) (i : Nat) : Prop where
  summ : Summ (l.take i) one
  nums : ∀ a b, a < one.length → b < one.length → (gw one a).n = (gw one b).n → a = b
  len : one.length ≤ i
theorem p1_nil (l : List Wt) : P1 l [] 0 := ⟨by rw [List.take_zero]; exact summ_nil, fun a b h => by simp at h, Nat.le_refl _⟩
theorem take_gw {l : List Wt} {i : Nat} (hi : i < l.length) : l.take (i + 1) = l.take i ++ [gw l i] := by rw [List.take_succ_eq_append_getElem hi, gw_get hi]
theorem P1.more {l one : List Wt} {i : Nat} (h : P1 l one i) (hi : i < l.length) (hn : ∀ j, j < one.length → (gw one j).n ≠ (gw l i).n) : P1 l (one ++ [gw l i]) (i + 1) := by
  refine ⟨?_, fun a b ha hb e => ?_, by rw [List.length_append]; have := h.len; simp; omega⟩
  · rw [take_gw hi]
    refine h.summ.more _ fun x hx => ?_
    obtain ⟨j, hj, rfl⟩ := mem_gw hx
    exact hn j hj
  · rw [List.length_append, List.length_singleton] at ha hb
    by_cases ea : a = one.length
    · by_cases eb : b = one.length
      · omega
      · rw [ea, gw_push, gw_old _ _ (by omega)] at e
        exact absurd e.symm (hn b (by omega))
    · by_cases eb : b = one.length
      · rw [eb, gw_push, gw_old _ _ (by omega)] at e
        exact absurd e (hn a (by omega))
      · rw [gw_old _ _ (by omega), gw_old _ _ (by omega)] at e
        exact h.nums a b (by omega) (by omega) e
/-- What tells of a number behind one more want of it. -/
def mrg (x y : Wt) : Wt := ⟨if y.d < x.d then y.d else x.d, x.n, x.w || y.w⟩
theorem P1.again {l one : List Wt} {i j : Nat} (h : P1 l one i) (hi : i < l.length) (hj : j < one.length) (e : (gw one j).n = (gw l i).n) : P1 l (one.set j (mrg (gw one j) (gw l i))) (i + 1) := by
  refine ⟨?_, fun a b ha hb e2 => ?_, by rw [List.length_set]; have := h.len; omega⟩
  · rw [take_gw hi]
    refine h.summ.again (gw_mem hj) e (x' := mrg (gw one j) (gw l i)) e rfl (by simp [mrg]) fun z => ?_
    constructor
    · intro hz
      obtain ⟨k, hk, rfl⟩ := mem_gw hz
      rw [List.length_set] at hk
      rw [gw_set hj]
      by_cases ek : k = j
      · rw [if_pos ek]; exact .inl rfl
      · rw [if_neg ek]; exact .inr ⟨gw_mem hk, fun e3 => ek (h.nums k j hk hj (e3.trans e.symm))⟩
    · have hm : ∀ k, k < one.length → gw (one.set j (mrg (gw one j) (gw l i))) k ∈ one.set j (mrg (gw one j) (gw l i)) := fun k hk => gw_mem (by rw [List.length_set]; exact hk)
      rintro (rfl | ⟨hz, hne⟩)
      · have := hm j hj
        rwa [gw_set hj, if_pos rfl] at this
      · obtain ⟨k, hk, rfl⟩ := mem_gw hz
        have := hm k hk
        rwa [gw_set hj, if_neg (fun ek => hne (by rw [ek, e]))] at this
  · rw [List.length_set] at ha hb
    have hnn : ∀ k, (gw (one.set j (mrg (gw one j) (gw l i))) k).n = (gw one k).n := fun k => by
      rw [gw_set hj]
      by_cases ek : k = j
      · rw [if_pos ek, ek]; rfl
      · rw [if_neg ek]
    rw [hnn, hnn] at e2
    exact h.nums a b ha hb e2
theorem OW.mrg1 {w : World} {lo E g m c j : Nat} {one : List Wt} (h : OW w lo E (.slice (some ⟨g, 0, none⟩) m c) one) (hm : one.length = m) (hj : j < m) {y : Wt} (hlt : y.d < (gw one j).d) {b : Bool} (hb : b = ((gw one j).w || y.w)) :
    OW ((w.setCell ⟨g, j * 3, none⟩ (.int .i64 y.d)).setCell ⟨g, j * 3 + 2, none⟩ (.bool b)) lo E (.slice (some ⟨g, 0, none⟩) m c) (one.set j (mrg (gw one j) y)) := by
  subst hm hb
  have h1 := h.dp hj y.d
  obtain ⟨two, h2⟩ : ∃ two, one.set j ((gw one j).dp y.d) = two := ⟨_, rfl⟩
  have hl : two.length = one.length := by rw [← h2, List.length_set]
  have hg : gw two j = (gw one j).dp y.d := by rw [← h2, gw_set hj, if_pos rfl]
  rw [h2, ← hl] at h1
  have h3 := h1.wr (by rw [hl]; exact hj) ((gw one j).w || y.w)
  rw [hg, hl, ← h2, List.set_set] at h3
  have e : mrg (gw one j) y = ((gw one j).dp y.d).wr ((gw one j).w || y.w) := by unfold mrg Wt.dp Wt.wr; rw [if_pos hlt]
  rw [e]
  exact h3
theorem OW.mrg2 {w : World} {lo E g m c j : Nat} {one : List Wt} (h : OW w lo E (.slice (some ⟨g, 0, none⟩) m c) one) (hm : one.length = m) (hj : j < m) {y : Wt} (hlt : ¬ y.d < (gw one j).d) {b : Bool} (hb : b = ((gw one j).w || y.w)) :
    OW (w.setCell ⟨g, j * 3 + 2, none⟩ (.bool b)) lo E (.slice (some ⟨g, 0, none⟩) m c) (one.set j (mrg (gw one j) y)) := by
  subst hm hb
  have h3 := h.wr hj ((gw one j).w || y.w)
  have e : mrg (gw one j) y = (gw one j).wr ((gw one j).w || y.w) := by unfold mrg Wt.wr; rw [if_neg hlt]
  rw [e]
  exact h3
theorem OW.drawn {w : World} {lo E : Nat} {v : Value} {xs : List Wt} (h : OW w lo E v xs) (n : Nat) : OW (w.drewN n) lo E v xs := h
theorem OW.cap {w : World} {lo E g m c : Nat} {xs : List Wt} (h : OW w lo E (.slice (some ⟨g, 0, none⟩) m c) xs) (hm : xs.length = m) : m ≤ c ∧ c ≤ maxLen := by
  rcases h.2 with ⟨h1, _⟩ | ⟨g', c', cur, h1, _, _, h4, h5, _⟩
  · cases h1
  · injection h1 with _ _ e; subst e; exact ⟨hm ▸ h4, h5⟩
theorem step_app {P : Program} {ops : Array Oper} {o : Oper} {a : Act} {w : World} {K : Act → World → Prop} {Q : Exit → Act → World → Prop} {E : Prop} (hgd : o.guard = none) (s x : Operand) (t : TypeId)
    (ho : o.op = .call { callee := .builtin .append, args := #[s, x], argTypes := #[t, t] })
    (base : Nat) (e : TypeId) (i : TypeInfo) (z : Value) (size bytes : Nat) (ht : P.underlying t = some (.slice e)) (hi : P.info? e = some i) (hz : i.zero = some z)
    (hsize : i.size = size) (hby : i.bytes = bytes) (hzs : z.cells.size = size) (hsz : 0 < size)
    (v : Value) (n : Nat) (xs : List Value) (hs : a.eval s = v) (hown : w.ownsRow base e size v n xs)
    (ad : Addr) (m c : Nat) (news : List Value) (hx : a.eval x = .slice (some ad) m c) (hl : news.length = m * size) (hnews : ∀ j u, news[j]? = some u → w.cell? (ad.add j) = some u) (h1 : ∀ u ∈ news, u.oneCell' = true)
    (h63 : n + m ≤ maxLen) (hbytes : (n + m) * bytes ≤ 140737488355328) (hbase : base ≤ w.heap.size)
    (h : ∀ v' w', w'.ownsRow base e size v' (n + m) (xs ++ news) → w.grownBy w' v.ownBlock → (v'.ownBlock = v.ownBlock ∨ v'.ownBlock = some w.heap.size) → K (a.put o.dst v') w') :
    if Region.wanted o (yielded ops a.tmps) = true then Oper.wp P o a w K Q else E := by
  have hw : Region.wanted o (yielded ops a.tmps) = true := by simp [Region.wanted, hgd]
  rw [if_pos hw]
  obtain ⟨v', w', hr, h2, h3, h4, h5⟩ := run_append_own_at (P := P) w base t o.type e i z size bytes ht hi hz hsize hby hzs hsz v n xs hown ad m c news hl hnews h1 h63 hbytes hbase
  unfold Oper.wp execOp
  simp only [ho, resolve, invoke, builtin, Sem.run_bind, Sem.run_pure, Result.andThen_ok, List.map_toArray, List.map_cons, List.map_nil, hs, hx, hr]
  exact h v' w' h2 h3 h5
theorem encW_one (xs : List Wt) : ∀ u ∈ encW xs, u.oneCell' = true := fun u hu => by
  unfold encW at hu
  obtain ⟨x, _, hx⟩ := List.mem_flatMap.1 hu
  simp at hx
  rcases hx with rfl | rfl | rfl <;> rfl
theorem encW_take (xs : List Wt) (k : Nat) : (encW xs).take (k * 3) = encW (xs.take k) := by
  rcases Nat.lt_or_ge k xs.length with h | h
  · have e : encW xs = encW (xs.take k) ++ encW (xs.drop k) := by rw [← encW_app, List.take_append_drop]
    rw [e, List.take_left' (by rw [encW_len, List.length_take]; omega)]
  · rw [List.take_of_length_le (by rw [encW_len]; omega), List.take_of_length_le h]
theorem encW_drop (xs : List Wt) (k : Nat) : (encW xs).drop (k * 3) = encW (xs.drop k) := by
  rcases Nat.lt_or_ge k xs.length with h | h
  · have e : encW xs = encW (xs.take k) ++ encW (xs.drop k) := by rw [← encW_app, List.take_append_drop]
    rw [e, List.drop_left' (by rw [encW_len, List.length_take]; omega)]
  · rw [List.drop_eq_nil_of_le (by rw [encW_len]; omega), List.drop_eq_nil_of_le h]; rfl
theorem info_w : (Try.prog.info? 63).map (fun i => (i.zero, i.size, i.bytes)) = some (some (Wv ⟨0, 0, false⟩), 3, 24) := by kernel_rfl
theorem info_parts {P : Program} {t : TypeId} {z : Option Value} {s b : Nat} (h : (P.info? t).map (fun i => (i.zero, i.size, i.bytes)) = some (z, s, b)) : ∃ i, P.info? t = some i ∧ i.zero = z ∧ i.size = s ∧ i.bytes = b := by
  cases e : P.info? t with
  | none => rw [e] at h; cases h
  | some i => rw [e] at h; simp at h; exact ⟨i, rfl, h.1, h.2.1, h.2.2⟩
set_option maxRecDepth 100000 in
set_option maxHeartbeats 4000000 in
theorem rorder_any {w : World} {A1 : Option Addr} {l : List Wt} {c1 : Nat} (h1 : Wan w w.heap.size A1 l) (l1 : l.length ≤ 1000000) :
    Calls Try.prog 12 #[.slice A1 l.length c1] w (fun e w' => ∃ v o, e = .returned v ∧ IsOrd l o ∧ OW w' w.heap.size 63 v o ∧ Below w.heap.size w w') := by
  have H1 := Lib.hid h1
  clear h1
  obtain ⟨n, hn⟩ : ∃ n, l.length = n := ⟨_, rfl⟩
  rw [hn] at l1 ⊢
  have HN := Lib.hid hn
  obtain ⟨i0, hi, hz0, hz1, hz2⟩ := info_parts info_w
  have HI := Lib.hid hi
  have HZ := Lib.hid (show i0.zero = some (Wv ⟨0, 0, false⟩) ∧ i0.size = 3 ∧ i0.bytes = 24 from ⟨hz0, hz1, hz2⟩)
  clear hn hi hz0 hz1 hz2
  go_enter Try.func12, Try.ntmps12
  go_wp2_with fail
  go_loopg [3, 4] n (fun gk u3 u4 wx => ∃ (i : Nat) (one : List Wt), u4 = .int .i64 i ∧ gk + i = n ∧ Hid (OW wx w.heap.size 63 u3 one) ∧ Hid (P1 l one i) ∧ Hid (Below w.heap.size w wx))
  case atStart =>
    refine ⟨0, [], rfl, by omega, Lib.hid ?_, Lib.hid (p1_nil l), Lib.hid ((Below.refl _ _).alloc (Nat.le_refl _) _)⟩
    exact World.ownsRow_lit w #[] 0 (Nat.le_refl _) (by unfold maxLen; omega) rfl
  case round =>
    obtain ⟨i, one, rfl, hg, HO, HP, HB⟩ := hrel
    obtain ⟨gJ, hJ⟩ : ∃ g, gk = g := ⟨_, rfl⟩
    by_cases hi : i < n
    · have hi2 : (i : Int) < (n : Int) := by omega
      obtain ⟨m, hm⟩ : ∃ m, one.length = m := ⟨_, rfl⟩
      have hmi : m ≤ i := hm ▸ HP.out.len
      have HM := Lib.hid hm
      obtain ⟨A, c, rfl⟩ := HO.out.form
      rw [hm] at HO ⊢
      have HWN := Lib.hid HO.out.wan
      obtain ⟨g1, o1, rfl, hg1, x1, x2, x3⟩ := (H1.out.below HB.out) i (by rw [HN.out]; exact hi)
      obtain ⟨y, hy⟩ : ∃ y, gw l i = y := ⟨_, rfl⟩
      rw [hy] at x1 x2 x3
      have HY := Lib.hid hy
      obtain ⟨yd, yn, yw⟩ := y
      dsimp only at x1 x2 x3
      clear hm hy
      go_wp2_with fail
      go_loopg [5, 6] m (fun gk u5 u6 wx => ∃ (k : Nat) (at_ : Int), u5 = .int .i64 at_ ∧ u6 = .int .i64 k ∧ gk + k = m ∧ (∃ nq, wr.drewN nq = wx) ∧ (at_ = -1 ∨ 0 ≤ at_ ∧ at_ < k) ∧ Hid ((at_ = -1 ∧ ∀ j, j < k → (gw one j).n ≠ yn) ∨ ∃ j : Nat, j < k ∧ at_ = j ∧ (gw one j).n = yn))
      case atStart => exact ⟨0, -1, rfl, rfl, by omega, ⟨0, rfl⟩, .inl rfl, Lib.hid (.inl ⟨rfl, fun j hj => by omega⟩)⟩
      case round =>
        obtain ⟨k, at_, rfl, rfl, hgk, ⟨nq, rfl⟩, hat, HK⟩ := hrel
        by_cases hk : k < m
        · have hk2 : (k : Int) < (m : Int) := by omega
          obtain ⟨g2, o2, rfl, _, y1, y2, y3⟩ := HWN.out k (by rw [HM.out]; exact hk)
          obtain ⟨r, hr⟩ : ∃ r, (gw one k).n = r := ⟨_, rfl⟩
          rw [hr] at y2
          have HR := Lib.hid hr
          clear y1 y3 hr
          by_cases he : r = yn
          · subst he
            go_wp2_with fail
            go_quiet (fail)
            go_wp2_with fail
            go_roundg (gk - 1)
            case measure => omega
            case rel => exact ⟨k + 1, (k : Int), rfl, by go_num, by omega, ⟨_, rfl⟩, .inr ⟨by omega, by omega⟩, Lib.hid (.inr ⟨k, by omega, rfl, HR.out⟩)⟩
          · go_wp2_with fail
            go_quiet (fail)
            go_wp2_with fail
            go_roundg (gk - 1)
            case measure => omega
            case rel => exact ⟨k + 1, at_, rfl, by go_num, by omega, ⟨_, rfl⟩, by omega, Lib.hid (HK.out.imp (fun h => ⟨h.1, fun j hj => by
              by_cases e : j = k
              · subst e; rw [HR.out]; exact he
              · exact h.2 j (by omega)⟩) (fun ⟨j, h1, h2⟩ => ⟨j, by omega, h2⟩))⟩
        · have hkm : k = m := by omega
          have HXX := Lib.hid (show (at_ = -1 ∧ ∀ j, j < one.length → (gw one j).n ≠ yn) ∨ ∃ j : Nat, j < m ∧ at_ = j ∧ (gw one j).n = yn from by have := HK.out; rw [hkm] at this; rw [HM.out]; exact this)
          have HSZ := Lib.hid HB.out.size
          clear hkm HK hat
          rcases HXX.out with ⟨e, hno⟩ | ⟨j, hj, e, hn⟩
          · subst e
            have HNO := Lib.hid hno
            have HO2 := Lib.hid (show (wr.drewN nq).ownsRow w.heap.size 63 3 (.slice A m c) m (encW one) from by have := HO.out; unfold OW at this; rw [HM.out] at this; exact this)
            clear hno
            go_upto_region 12 with fail
            obtain ⟨v3, hv3⟩ : ∃ v, Value.slice A m c = v := ⟨_, rfl⟩
            rw [hv3] at HO2 ⊢
            have HV3 := Lib.hid hv3
            clear hv3
            go_wp2_with (at_builtin; go_loud (refine wpList_append_own _ rfl (.tmp 37) (.tmp 42) 26 rfl w.heap.size 63 i0 _ 3 24 Try.underlying26 HI.out HZ.out.1 HZ.out.2.1 HZ.out.2.2 rfl (by decide) v3 m (encW one) rfl (HO2.out.alloc _) ⟨wr.heap.size, 0, none⟩ 1 1 [.int .i64 yd, .int .i64 yn, .bool yw] rfl rfl (World.news_of_block (cs := #[.int .i64 yd, .int .i64 yn, .bool yw]) (t := 63) (fr := (0, 0)) (heap_alloc_new (wr.drewN nq) _)) (by intro u hu; simp at hu; rcases hu with rfl | rfl | rfl <;> rfl) (by unfold maxLen; omega) (by omega) (by have := HSZ.out; simp; omega) ?_; intro v1 w3 hown1 hgrow1 _))
            go_roundg (gJ - 1)
            case measure => omega
            case rel =>
              refine ⟨i + 1, one ++ [gw l i], by go_num, by omega, Lib.hid ?_, Lib.hid (HP.out.more (by rw [HN.out]; exact hi) (fun j hj => by rw [HY.out]; exact HNO.out j hj)), Lib.hid (((below_drewN HB.out nq).alloc (show w.heap.size ≤ wr.heap.size from HSZ.out) _).grown hgrow1 (by rw [World.size_alloc]; have := HSZ.out; show w.heap.size ≤ wr.heap.size + 1; omega) (fun g h => (HO2.out.lt g h).1))⟩
              unfold OW
              rw [List.length_append, HM.out, encW_app, HY.out]
              exact hown1
          · subst e
            obtain ⟨g2, c2, e, hlo2, hlt2⟩ := HO.out.some_ (by rw [HM.out]; omega)
            rw [HM.out] at e
            injection e with e1 _ e3
            subst e1 e3
            obtain ⟨b2, o2, e, _, y1, y2, y3⟩ := HWN.out j (by rw [HM.out]; exact hj)
            injection e with e
            injection e with e1 e2
            subst e1 e2
            rw [Nat.zero_add] at y1 y2 y3
            have hne1 : g1 ≠ g2 := by omega
            have hne2 : g2 ≠ g1 := by omega
            obtain ⟨x, hx⟩ : ∃ x, gw one j = x := ⟨_, rfl⟩
            rw [hx] at y1 y2 y3 hn
            have HX := Lib.hid hx
            obtain ⟨xd, xn, xw⟩ := x
            dsimp only at y1 y2 y3 hn
            have HXN := Lib.hid hn
            have fz := HO.out
            rw [← HM.out] at fz
            have FZ := fun o => fz.frz o
            clear hx y2 x2 hn fz
            by_cases hlt : yd < xd
            · cases xw
              · go_wp2_with fail
                go_quiet (fail)
                go_wp2_with fail
                go_roundg (gJ - 1)
                case measure => omega
                case rel => exact ⟨i + 1, one.set j (mrg (gw one j) (gw l i)), by go_num, by omega, Lib.hid (by rw [HY.out]; exact (HO.out.drawn _).mrg1 HM.out hj (y := ⟨yd, yn, yw⟩) (by rw [HX.out]; exact hlt) (by rw [HX.out]; rfl)), Lib.hid (HP.out.again (by rw [HN.out]; exact hi) (by rw [HM.out]; exact hj) (by rw [HX.out, HY.out]; exact HXN.out)), Lib.hid (((below_drewN HB.out _).setCell hlo2 _).setCell hlo2 _)⟩
              · go_wp2_with fail
                go_quiet (fail)
                go_wp2_with fail
                go_roundg (gJ - 1)
                case measure => omega
                case rel => exact ⟨i + 1, one.set j (mrg (gw one j) (gw l i)), by go_num, by omega, Lib.hid (by rw [HY.out]; exact (HO.out.drawn _).mrg1 HM.out hj (y := ⟨yd, yn, yw⟩) (by rw [HX.out]; exact hlt) (by rw [HX.out]; simp)), Lib.hid (HP.out.again (by rw [HN.out]; exact hi) (by rw [HM.out]; exact hj) (by rw [HX.out, HY.out]; exact HXN.out)), Lib.hid (((below_drewN HB.out _).setCell hlo2 _).setCell hlo2 _)⟩
            · cases xw
              · go_wp2_with fail
                go_quiet (fail)
                go_wp2_with fail
                go_roundg (gJ - 1)
                case measure => omega
                case rel => exact ⟨i + 1, one.set j (mrg (gw one j) (gw l i)), by go_num, by omega, Lib.hid (by rw [HY.out]; exact (HO.out.drawn _).mrg2 HM.out hj (y := ⟨yd, yn, yw⟩) (by rw [HX.out]; exact Int.not_lt.2 hlt) (by rw [HX.out]; rfl)), Lib.hid (HP.out.again (by rw [HN.out]; exact hi) (by rw [HM.out]; exact hj) (by rw [HX.out, HY.out]; exact HXN.out)), Lib.hid ((below_drewN HB.out _).setCell hlo2 _)⟩
              · go_wp2_with fail
                go_quiet (fail)
                go_wp2_with fail
                go_roundg (gJ - 1)
                case measure => omega
                case rel => exact ⟨i + 1, one.set j (mrg (gw one j) (gw l i)), by go_num, by omega, Lib.hid (by rw [HY.out]; exact (HO.out.drawn _).mrg2 HM.out hj (y := ⟨yd, yn, yw⟩) (by rw [HX.out]; exact Int.not_lt.2 hlt) (by rw [HX.out]; simp)), Lib.hid (HP.out.again (by rw [HN.out]; exact hi) (by rw [HM.out]; exact hj) (by rw [HX.out, HY.out]; exact HXN.out)), Lib.hid ((below_drewN HB.out _).setCell hlo2 _)⟩
    · have hin : i = n := by omega
      have HS := Lib.hid (show Summ l one from by have := HP.out.summ; rw [hin, ← HN.out, List.take_length] at this; exact this)
      have HNU := Lib.hid HP.out.nums
      have HLN := Lib.hid (show one.length ≤ n from hin ▸ HP.out.len)
      have HSZ := Lib.hid HB.out.size
      obtain ⟨m0, hm0⟩ : ∃ m, one.length = m := ⟨_, rfl⟩
      obtain ⟨A, c, rfl⟩ := HO.out.form
      rw [hm0] at HO ⊢
      have HM0 := Lib.hid hm0
      clear hin HP hm0
      go_wp2_with fail
      go_loopg [3, 7] m0 (fun gk u3 u7 wx => ∃ out rest : List Wt, gk = rest.length ∧ Hid (OW wx w.heap.size 63 u3 rest) ∧ Hid (OW wx w.heap.size 63 u7 out) ∧ Hid (Sel one out rest) ∧ Hid (out.length + rest.length = m0) ∧ Hid (∀ B C, u3.ownBlock = some B → u7.ownBlock = some C → B ≠ C) ∧ Hid (Below w.heap.size w wx))
      case atStart =>
        refine ⟨[], one, HM0.out.symm, Lib.hid (HO.out.alloc _), Lib.hid ?_, Lib.hid (sel_start ?_), Lib.hid (by simpa using HM0.out), Lib.hid ?_, Lib.hid (HB.out.alloc HSZ.out _)⟩
        · exact World.ownsRow_lit wr #[] 0 HSZ.out (by unfold maxLen; omega) rfl
        · exact List.pairwise_iff_getElem.2 fun a b ha hb hab e => by
            have := HNU.out a b ha hb (by rw [gw_get ha, gw_get hb]; exact e)
            omega
        · intro B C h1 h2 e
          have := (HO.out.lt B h1).2
          simp [Value.ownBlock] at h2
          omega
      case round =>
        obtain ⟨out, rest, hgr, HR, HU, HSL, HLE, HNE, HB2⟩ := hrel
        obtain ⟨gJ2, hJ2⟩ : ∃ g, gk = g := ⟨_, rfl⟩
        obtain ⟨m, hm⟩ : ∃ m, rest.length = m := ⟨_, rfl⟩
        have HM := Lib.hid hm
        obtain ⟨A3, c3, rfl⟩ := HR.out.form
        rw [hm] at HR ⊢ hgr
        have HWN := Lib.hid HR.out.wan
        have hm6 : m ≤ 1000000 := by have := HLE.out; have := HLN.out; have := HM0.out; omega
        clear hm
        by_cases h0 : 0 < m
        · have h02 : (0 : Int) < (m : Int) := by omega
          go_wp2_with fail
          go_loopg [8, 9] m (fun gk u8 u9 wx => ∃ k bt : Nat, u8 = .int .i64 bt ∧ u9 = .int .i64 k ∧ gk + k = m + 1 ∧ k ≤ m ∧ bt < k ∧ (∃ nq, wr.drewN nq = wx) ∧ Hid (∀ j, j < k → ¬ wlt (gw rest j) (gw rest bt)))
          case atStart => exact ⟨1, 0, rfl, rfl, by omega, by omega, by omega, ⟨0, rfl⟩, Lib.hid fun j hj => by rw [show j = 0 by omega]; exact wlt_irr _⟩
          case round =>
            obtain ⟨k, bt, rfl, rfl, hgk, hkm, hbk, ⟨nq, rfl⟩, HMN⟩ := hrel
            by_cases hk : k < m
            · obtain ⟨b2, o2, rfl, _, y1, y2, y3⟩ := HWN.out k (by rw [HM.out]; exact hk)
              obtain ⟨b3, o3, e, _, z1, z2, z3⟩ := HWN.out bt (by rw [HM.out]; omega)
              injection e with e
              injection e with e1 e2
              subst e1 e2
              obtain ⟨y, hy⟩ : ∃ y, gw rest k = y := ⟨_, rfl⟩
              obtain ⟨x, hx⟩ : ∃ x, gw rest bt = x := ⟨_, rfl⟩
              rw [hy] at y1 y2 y3
              rw [hx] at z1 z2 z3
              have HY := Lib.hid hy
              have HX := Lib.hid hx
              obtain ⟨yd, yn, yw⟩ := y
              obtain ⟨xd, xn, xw⟩ := x
              dsimp only at y1 y2 y3 z1 z2 z3
              have hk2 : (k : Int) < (m : Int) := by omega
              clear hy hx y3 z3
              by_cases c1 : yd < xd
              · go_wp2_with fail
                go_quiet (fail)
                go_wp2_with fail
                go_roundg (gk - 1)
                case measure => omega
                case rel => exact ⟨k + 1, k, rfl, by go_num, by omega, by omega, by omega, ⟨_, rfl⟩, Lib.hid fun j hj => by
                  by_cases e : j = k
                  · subst e; exact wlt_irr _
                  · have h1 := HMN.out j (by omega)
                    rw [HX.out] at h1
                    rw [HY.out]
                    unfold wlt at h1 ⊢
                    dsimp only at h1 ⊢
                    omega⟩
              · by_cases c2 : yd = xd
                · subst c2
                  by_cases c3 : yn < xn
                  · go_wp2_with fail
                    go_quiet (fail)
                    go_wp2_with fail
                    go_roundg (gk - 1)
                    case measure => omega
                    case rel => exact ⟨k + 1, k, rfl, by go_num, by omega, by omega, by omega, ⟨_, rfl⟩, Lib.hid fun j hj => by
                      by_cases e : j = k
                      · subst e; exact wlt_irr _
                      · have h1 := HMN.out j (by omega)
                        rw [HX.out] at h1
                        rw [HY.out]
                        unfold wlt at h1 ⊢
                        dsimp only at h1 ⊢
                        omega⟩
                  · go_wp2_with fail
                    go_quiet (fail)
                    go_wp2_with fail
                    go_roundg (gk - 1)
                    case measure => omega
                    case rel => exact ⟨k + 1, bt, rfl, by go_num, by omega, by omega, by omega, ⟨_, rfl⟩, Lib.hid fun j hj => by
                      by_cases e : j = k
                      · subst e; rw [HX.out, HY.out]; unfold wlt; dsimp only; omega
                      · exact HMN.out j (by omega)⟩
                · have c6 : ¬ (yd < xd ∨ yd = xd ∧ yn < xn) := by omega
                  have c7 : xd < yd := by omega
                  have c8 : (yd == xd) = false := by simp; omega
                  have c9 : decide (yd < xd) = false := decide_eq_false (by omega)
                  go_wp2_with fail
                  go_quiet (fail)
                  go_wp2_with fail
                  go_roundg (gk - 1)
                  case measure => omega
                  case rel => exact ⟨k + 1, bt, rfl, by go_num, by omega, by omega, by omega, ⟨_, rfl⟩, Lib.hid fun j hj => by
                    by_cases e : j = k
                    · subst e; rw [HX.out, HY.out]; unfold wlt; dsimp only; omega
                    · exact HMN.out j (by omega)⟩
            · have hkm2 : k = m := by omega
              have HMIN := Lib.hid (show ∀ j, j < m → ¬ wlt (gw rest j) (gw rest bt) from by rw [← hkm2]; exact HMN.out)
              obtain ⟨b3, o3, e, _, z1, z2, z3⟩ := HWN.out bt (by rw [HM.out]; omega)
              obtain ⟨g3, c4, e3, hlo3, hlt3⟩ := HR.out.some_ (by rw [HM.out]; exact h0)
              rw [HM.out] at e3
              injection e3 with e4 _ e5
              subst e4 e5
              injection e with e
              injection e with e1 e2
              subst e1 e2
              rw [Nat.zero_add] at z1 z2 z3
              obtain ⟨x, hx⟩ : ∃ x, gw rest bt = x := ⟨_, rfl⟩
              rw [hx] at z1 z2 z3
              have HX := Lib.hid hx
              obtain ⟨xd, xn, xw⟩ := x
              dsimp only at z1 z2 z3
              obtain ⟨q, hq⟩ : ∃ q, out.length = q := ⟨_, rfl⟩
              have hqm : q + m ≤ 1000000 := by have := HLE.out; have := HLN.out; have := HM0.out; have := HM.out; omega
              have HQ := Lib.hid hq
              have HO2 := Lib.hid (show (wr.drewN nq).ownsRow w.heap.size 63 3 u7 q (encW out) from by have := HU.out; unfold OW at this; rw [hq] at this; exact this)
              have HSZ2 := Lib.hid HB2.out.size
              have hbm : bt < m := by omega
              clear hx hq hkm2 HMN
              go_wp2_with (at_builtin; go_loud (refine wpList_append_own_at _ rfl (.tmp 128) (.tmp 133) 26 rfl w.heap.size 63 i0 _ 3 24 Try.underlying26 HI.out HZ.out.1 HZ.out.2.1 HZ.out.2.2 rfl (by decide) u7 q (encW out) rfl (HO2.out.alloc _) ⟨wr.heap.size, 0, none⟩ 1 1 [.int .i64 xd, .int .i64 xn, .bool xw] rfl rfl (World.news_of_block (cs := #[.int .i64 xd, .int .i64 xn, .bool xw]) (t := 63) (fr := (0, 0)) (heap_alloc_new (wr.drewN nq) _)) (by intro u hu; simp at hu; rcases hu with rfl | rfl | rfl <;> rfl) (by unfold maxLen; omega) (by omega) (by have := HSZ2.out; simp; omega) ?_; intro v1 w3 hown1 hgrow1 _ hat1))
              obtain ⟨hmc, hcm⟩ := HR.out.cap HM.out
              have hb63 : (bt : Int) + 1 ≤ 1000000 := by omega
              have hbc : bt ≤ c3 := by omega
              refine rh.region_T (S := fun _ => True) (z := 10) (by kernel_rfl) ?_
              simp only [List.size_toArray, List.length_cons, List.length_nil, Nat.zero_add, Nat.reduceAdd]
              rw [show Array.replicate 11 false = #[false, false, false, false, false, false, false, false, false, false, false] from rfl]
              refine rh.take_T (i := 1) (.slice (some ⟨g3, 0, none⟩) m c3) rfl (by kernel_rfl) (by kernel_rfl) (by kernel_rfl) (by kernel_rfl) (fun _ _ _ h => h) (Or.inl ⟨by rfl, by intro w' hSw; (try dsimp only at hSw); go_simp⟩) trivial ?_
              simp only [Act.put, List.setIfInBounds_toArray, List.set_cons_zero, List.set_cons_succ]
              refine rh.take_T (i := 2) (.int .i64 (bt : Int)) rfl (by kernel_rfl) (by kernel_rfl) (by kernel_rfl) (by kernel_rfl) (fun _ _ _ h => h) (Or.inl ⟨by rfl, by intro w' hSw; (try dsimp only at hSw); go_simp⟩) trivial ?_
              simp only [Act.put, List.setIfInBounds_toArray, List.set_cons_zero, List.set_cons_succ]
              refine rh.take_T (i := 3) (.slice (some ⟨g3, 0, none⟩) bt c3) rfl (by kernel_rfl) (by kernel_rfl) (by kernel_rfl) (by kernel_rfl) (fun _ _ _ h => h) (Or.inl ⟨by rfl, by intro w' hSw; (try dsimp only at hSw); go_simp⟩) trivial ?_
              simp only [Act.put, List.setIfInBounds_toArray, List.set_cons_zero, List.set_cons_succ]
              refine rh.take_T (i := 5) (.slice (some ⟨g3, 0, none⟩) m c3) rfl (by kernel_rfl) (by kernel_rfl) (by kernel_rfl) (by kernel_rfl) (fun _ _ _ h => h) (Or.inl ⟨by rfl, by intro w' hSw; (try dsimp only at hSw); go_simp⟩) trivial ?_
              simp only [Act.put, List.setIfInBounds_toArray, List.set_cons_zero, List.set_cons_succ]
              refine rh.take_T (i := 6) (.int .i64 (bt : Int)) rfl (by kernel_rfl) (by kernel_rfl) (by kernel_rfl) (by kernel_rfl) (fun _ _ _ h => h) (Or.inl ⟨by rfl, by intro w' hSw; (try dsimp only at hSw); go_simp⟩) trivial ?_
              simp only [Act.put, List.setIfInBounds_toArray, List.set_cons_zero, List.set_cons_succ]
              obtain ⟨o8, h8⟩ : ∃ o8, (c3 = bt + 1 ∧ o8 = 0) ∨ (c3 ≠ bt + 1 ∧ o8 = (bt + 1) * 3) := by
                by_cases e : c3 = bt + 1
                · exact ⟨0, .inl ⟨e, rfl⟩⟩
                · exact ⟨_, .inr ⟨e, rfl⟩⟩
              have H8 := Lib.hid h8
              have H9 := Lib.hid (show IntKind.i64.wrap ((bt : Int) + 1) = (bt : Int) + 1 from by rw [IntKind.wrap_i64]; omega)
              clear h8
              refine rh.take_T (i := 7) (.int .i64 ((bt : Int) + 1)) rfl (by kernel_rfl) (by kernel_rfl) (by kernel_rfl) (by kernel_rfl) (fun _ _ _ h => h) (Or.inl ⟨by rfl, by intro w' hSw; (try dsimp only at hSw); go_simp; exact H9.out⟩) trivial ?_
              simp only [Act.put, List.setIfInBounds_toArray, List.set_cons_zero, List.set_cons_succ]
              refine rh.take_T (i := 8) (.slice (some ⟨g3, o8, none⟩) (m - (bt + 1)) (c3 - (bt + 1))) rfl (by kernel_rfl) (by kernel_rfl) (by kernel_rfl) (by kernel_rfl) (fun _ _ _ h => h) (Or.inl ⟨by rfl, by
                intro w' hSw
                (try dsimp only at hSw)
                go_simp
                rw [if_pos ⟨by omega, by omega⟩]
                rcases H8.out with ⟨e1, e2⟩ | ⟨e1, e2⟩
                · rw [if_pos e1, e2]
                · rw [if_neg e1, e2]⟩) trivial ?_
              simp only [Act.put, List.setIfInBounds_toArray, List.set_cons_zero, List.set_cons_succ]
              refine rh.step_T (i := 0) (by kernel_rfl) rfl fun K hK => ?_
              go_simp
              obtain ⟨w5, hw5⟩ : ∃ w5, (w3.alloc (.cells #[] 63)).drew = w5 := ⟨_, rfl⟩
              have hB3 : Below w.heap.size w w3 := (((below_drewN HB2.out nq).alloc (show w.heap.size ≤ wr.heap.size from HSZ2.out) _).grown hgrow1 (by rw [World.size_alloc]; have := HSZ2.out; show w.heap.size ≤ wr.heap.size + 1; omega) (fun g h => (HO2.out.lt g h).1))
              have hsz3 : w.heap.size ≤ w3.heap.size := hB3.size
              have hR3 : OW w3 w.heap.size 63 (.slice (some ⟨g3, 0, none⟩) m c3) rest := by
                have h := ((HR.out.drawn nq) : OW (wr.drewN nq) _ _ _ _)
                unfold OW at h ⊢
                exact (h.alloc _).kept hgrow1 (.inr fun e => HNE.out g3 g3 rfl (by rw [← e]; rfl) rfl)
              have hg3 : g3 < w3.heap.size := (hR3.lt g3 rfl).2
              have hR5 : OW w5 w.heap.size 63 (.slice (some ⟨g3, 0, none⟩) m c3) rest := by
                rw [← hw5]; unfold OW at hR3 ⊢; exact hR3.alloc _
              have hE5 : w5.ownsRow w.heap.size 63 3 (.slice (some ⟨w3.heap.size, 0, none⟩) 0 0) 0 [] := by
                rw [← hw5]; exact World.ownsRow_lit w3 #[] 0 hsz3 (by unfold maxLen; omega) rfl
              have hsz5 : w5.heap.size = w3.heap.size + 1 := by rw [← hw5]; exact World.size_alloc _ _
              have hB5 : Below w.heap.size w w5 := by rw [← hw5]; exact (hB3.alloc hsz3 _).drew
              have h1lt : ∀ B, v1.ownBlock = some B → B < w3.heap.size := fun B h => (hown1.lt B h).2
              have hO5 : w5.ownsRow w.heap.size 63 3 v1 (q + 1) (encW out ++ [.int .i64 xd, .int .i64 xn, .bool xw]) := by
                rw [← hw5]; exact hown1.alloc _
              rw [hw5]
              refine hK.out _ _ (.inr trivial) ?_
              clear hK K
              simp only [Act.put, List.setIfInBounds_toArray, List.set_cons_zero, List.set_cons_succ]
              refine rh.step_T (i := 4) (by kernel_rfl) rfl fun K hK => ?_
              refine step_app rfl (.tmp 135) (.tmp 138) 26 rfl w.heap.size 63 i0 _ 3 24 Try.underlying26 HI.out HZ.out.1 HZ.out.2.1 HZ.out.2.2 rfl (by decide) (.slice (some ⟨w3.heap.size, 0, none⟩) 0 0) 0 [] rfl hE5 ⟨g3, 0, none⟩ bt c3 (encW (rest.take bt)) rfl (by rw [encW_len, List.length_take, HM.out]; omega) (fun j u hu => by
                rw [← encW_take, List.getElem?_take] at hu
                by_cases hj : j < bt * 3
                · rw [if_pos hj] at hu; exact World.ownsRow.cells hR5 rfl j u hu
                · rw [if_neg hj] at hu; cases hu) (encW_one _) (by unfold maxLen; omega) (by omega) (by omega) ?_
              intro v6 w6 hown6 hgr6 hat6
              have hR6 : OW w6 w.heap.size 63 (.slice (some ⟨g3, 0, none⟩) m c3) rest := by
                unfold OW at hR5 ⊢
                exact hR5.kept hgr6 (.inr fun e => by simp [Value.ownBlock] at e; omega)
              have hO6 := hO5.kept hgr6 (Classical.byCases (p := v1.ownBlock = some w3.heap.size) (fun e => absurd (h1lt _ e) (Nat.lt_irrefl _)) (fun e => .inr e))
              have hB6 : Below w.heap.size w w6 := hB5.grown hgr6 (by omega) (fun g h => by simp [Value.ownBlock] at h; omega)
              have h6 : ∀ B, v6.ownBlock = some B → w3.heap.size ≤ B := fun B h => by
                rcases hat6 with e | e
                · rw [h] at e; simp [Value.ownBlock] at e; omega
                · rw [h] at e; injection e with e; omega
              have hsz6 := hgr6.size
              refine hK.out _ _ (.inr trivial) ?_
              clear hK K
              simp only [Act.put, List.setIfInBounds_toArray, List.set_cons_zero, List.set_cons_succ]
              refine rh.step_T (i := 9) (by kernel_rfl) rfl fun K hK => ?_
              refine step_app rfl (.tmp 139) (.tmp 143) 26 rfl w.heap.size 63 i0 _ 3 24 Try.underlying26 HI.out HZ.out.1 HZ.out.2.1 HZ.out.2.2 rfl (by decide) v6 (0 + bt) _ rfl hown6 ⟨g3, o8, none⟩ (m - (bt + 1)) (c3 - (bt + 1)) (encW (rest.drop (bt + 1))) rfl (by rw [encW_len, List.length_drop, HM.out]) (fun j u hu => by
                rw [← encW_drop, List.getElem?_drop] at hu
                have hj : (bt + 1) * 3 + j < m * 3 := by
                  have := (List.getElem?_eq_some_iff.1 hu).1
                  rw [encW_len, HM.out] at this; exact this
                have ho : o8 = (bt + 1) * 3 := by
                  rcases H8.out with ⟨e1, _⟩ | ⟨_, e2⟩
                  · omega
                  · exact e2
                have := World.ownsRow.cells hR6 rfl _ u hu
                rw [ho]
                by_cases j0 : j = 0
                · subst j0; simpa [Addr.add] using this
                · simpa [Addr.add, j0] using this) (encW_one _) (by unfold maxLen; omega) (by omega) (by omega) ?_
              intro v7 w7 hown7 hgr7 hat7
              have hO7 := hO6.kept hgr7 (Classical.byCases (p := v1.ownBlock = v6.ownBlock) (fun e => by
                cases e1 : v1.ownBlock with
                | none => exact .inl rfl
                | some B => have := h1lt B e1; have := h6 B (e.symm.trans e1); omega) (fun e => .inr e))
              have hB7 : Below w.heap.size w w7 := hB6.grown hgr7 (by omega) (fun g h => by have := h6 g h; omega)
              have h7 : ∀ B, v7.ownBlock = some B → w3.heap.size ≤ B := fun B h => by
                rcases hat7 with e | e
                · exact h6 B (e.symm.trans h)
                · rw [h] at e; injection e with e; omega
              refine hK.out _ _ (.inr trivial) ?_
              clear hK K
              simp only [Act.put, List.setIfInBounds_toArray, List.set_cons_zero, List.set_cons_succ]
              refine rh.step_T (i := 10) (by kernel_rfl) rfl fun K hK => ?_
              go_simp
              refine hK.out _ _ (.inl rfl) ?_
              clear hK K
              refine rh.done_T (by kernel_rfl) ?_
              have hsp : rest = rest.take bt ++ gw rest bt :: rest.drop (bt + 1) := by
                have hbl : bt < rest.length := by rw [HM.out]; exact hbm
                rw [gw_get hbl, ← List.drop_eq_getElem_cons hbl, List.take_append_drop]
              have HSP := Lib.hid hsp
              have HSL9 := Lib.hid (show Sel one (out ++ [gw rest bt]) (rest.take bt ++ rest.drop (bt + 1)) from by
                have h := HSL.out
                rw [HSP.out] at h
                refine h.step fun y hy => ?_
                rw [← HSP.out] at hy
                obtain ⟨j, hj, rfl⟩ := mem_gw hy
                exact HMIN.out j (by rw [← HM.out]; exact hj))
              have HF7 := Lib.hid (show OW w7 w.heap.size 63 v7 (rest.take bt ++ rest.drop (bt + 1)) ∧ OW w7 w.heap.size 63 v1 (out ++ [gw rest bt]) ∧ (∀ B C, v7.ownBlock = some B → v1.ownBlock = some C → B ≠ C) ∧ Below w.heap.size w w7 from by
                refine ⟨?_, ?_, fun B C hB hC => by have := h7 B hB; have := h1lt C hC; omega, hB7⟩
                · unfold OW
                  rw [List.length_append, List.length_take, List.length_drop, HM.out, encW_app, show min bt m = 0 + bt by omega]
                  exact hown7
                · unfold OW
                  rw [List.length_append, HQ.out, encW_app, HX.out]
                  exact hO7)
              have HL9 := Lib.hid (show (rest.take bt ++ rest.drop (bt + 1)).length = m - 1 from by rw [List.length_append, List.length_take, List.length_drop, HM.out]; omega)
              clear hsp hO7 hB7 h7 hown7 hgr7 hat7 hown6 hgr6 hat6 hR6 hO6 hB6 h6 hsz6 hO5 hB5 h1lt hE5 hR5 hR3 hB3 hown1 hgrow1 hat1 hw5
              go_wp2_with fail
              go_roundg (gJ2 - 1)
              case measure => omega
              case rel => exact ⟨out ++ [gw rest bt], rest.take bt ++ rest.drop (bt + 1), by rw [HL9.out]; omega, Lib.hid HF7.out.1, Lib.hid HF7.out.2.1, HSL9, Lib.hid (by rw [HL9.out, List.length_append]; have := HLE.out; have := HM.out; simp; omega), Lib.hid HF7.out.2.2.1, Lib.hid HF7.out.2.2.2⟩
        · have hmz : m = 0 := by omega
          have HF := Lib.hid (show IsOrd l out from by
            have h := HSL.out
            rw [List.eq_nil_of_length_eq_zero (HM.out.trans hmz)] at h
            exact h.ends HS.out)
          have HF2 := Lib.hid (show ∃ v o, Ending.returned u7 = .returned v ∧ IsOrd l o ∧ OW wr w.heap.size 63 v o ∧ Below w.heap.size w wr from ⟨u7, out, rfl, HF.out, HU.out, HB2.out⟩)
          go_wp2_with fail
          go_ret
          exact HF2.out
end Go.Proofs.Ytlplbpilpkmoaaa.pl
