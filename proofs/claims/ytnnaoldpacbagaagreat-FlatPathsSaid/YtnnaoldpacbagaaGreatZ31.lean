/- 'Same': lines side by side. A builder of strings: what is written comes behind. 'Text', 'Same', and the law's look at the size. 'Same' as the code and as the document have it; the law's look at the size. -/
import Derived.Test.YtnnaoldpacbagaaGreatZ30
import Derived.Deep.QuietTactic
import Derived.Test.YtnnaoldpacbagaaGreatZ01
import Derived.Lib.Builder
import Derived.Lib.AppendStr
import Derived.Lib.UnsafeStr
import Derived.Laws.Externs
import Derived.Lib.MinMax
section
namespace Go.Proofs.YtnnaoldpacbagaaGreat.fl
open Go.RowKit
open Go.Proofs.YtnnaoldpacbagaaGreat.cb (RetW RetI)
open Go.Proofs.YtnnaoldpacbagaaGreat.bl (Pq)
set_option linter.unusedVariables false
set_option linter.unusedSimpArgs false

def sameL (x y : Ln) : Bool := decide (x.path = y.path) && decide (x.kind = y.kind) && decide (x.data = y.data)
theorem sameL_iff {x y : Ln} : sameL x y = true ↔ x = y := by
  obtain ⟨a, b, c⟩ := x
  obtain ⟨a', b', c'⟩ := y
  unfold sameL
  simp only [Bool.and_eq_true, decide_eq_true_eq, Ln.mk.injEq, and_assoc]
def sameLs : List Ln → List Ln → Bool
  | [], [] => true
  | x :: l, y :: k => sameL x y && sameLs l k
  | _, _ => false
theorem sameLs_iff : ∀ {l k : List Ln}, sameLs l k = true ↔ l = k
  | [], [] => by simp [sameLs]
  | [], y :: k => by simp [sameLs]
  | x :: l, [] => by simp [sameLs]
  | x :: l, y :: k => by
    unfold sameLs
    rw [Bool.and_eq_true, sameL_iff, sameLs_iff, List.cons.injEq]
theorem sameLs_len {l k : List Ln} (h : l.length ≠ k.length) : sameLs l k = false := by
  rw [Bool.eq_false_iff]
  intro e
  exact h (by rw [sameLs_iff.1 e])
theorem sameLs_drop {l k : List Ln} {j : Nat} {x y : Ln} (hx : l[j]? = some x) (hy : k[j]? = some y) : sameLs (l.drop j) (k.drop j) = (sameL x y && sameLs (l.drop (j + 1)) (k.drop (j + 1))) := by
  have h1 := (List.getElem?_eq_some_iff.1 hx).1
  have h2 := (List.getElem?_eq_some_iff.1 hy).1
  rw [List.drop_eq_getElem_cons h1, List.drop_eq_getElem_cons h2, (List.getElem?_eq_some_iff.1 hx).2, (List.getElem?_eq_some_iff.1 hy).2]
  rfl
theorem run_equal79 (x y : Ln) (w : World) : (Op.equalIn 10000 79 (Lv x) (Lv y)).run Tryz.prog w = .ok (sameL x y) w := by
  have hS : Tryz.prog.underlying 79 = some (.struct (Tryz.prog.fieldsOf 79)) := by kernel_rfl
  have hp : Tryz.prog.stoodInHeld 79 = false := by kernel_rfl
  have u3 := Tryz.underlying3
  have a3 := Tryz.isAgg3
  have z3 := Tryz.sizeOf3
  have u9 := Tryz.underlying9
  have a9 := Tryz.isAgg9
  have z9 := Tryz.sizeOf9
  have e : sameL x y = (x.path.toList == y.path.toList && (x.kind == y.kind && x.data.toList == y.data.toList)) := by
    rw [dn.beq_names, dn.beq_names]
    unfold sameL
    rw [Bool.and_assoc]
    rfl
  rw [show (10000 : Nat) = 9999 + 1 from rfl, run_equalIn_agg w 9999 79 _ _ hS hp, e]
  simp only [Program.fieldsOf, Tryz.underlying79]
  go_simp
  by_cases h1 : x.path.toList = y.path.toList <;> by_cases h3 : x.data.toList = y.data.toList <;> by_cases h2 : x.kind = y.kind <;> simp [h1, h2, h3]
theorem run_eql79 (x y : Ln) (w : World) : (binOp .eql 79 (Lv x) (Lv y)).run Tryz.prog w = .ok (.bool (sameL x y)) w := by
  rw [run_eql_struct, run_equal79]; rfl
theorem guard79 (op : BinOp) (a b : Operand) (xs ys : Array Value) (w : World) : (eqGuard op 79 a b (.agg xs) (.agg ys)).run Tryz.prog w = .ok () w := run_eqGuard_agg w op 79 a b xs ys (by kernel_rfl)
theorem run_neq79 (x y : Ln) (w : World) : (binOp .neq 79 (Lv x) (Lv y)).run Tryz.prog w = .ok (.bool (!sameL x y)) w := by
  rw [run_neq_struct, run_equal79]; rfl
set_option maxRecDepth 100000 in
set_option maxHeartbeats 4000000 in
theorem equal_any {w : World} {B : Nat} {A A' : Option Addr} {l k : List Ln} {c c' : Nat} (hl : LR w B A l) (hk : LR w B A' k) (hB : B ≤ w.heap.size) (h1 : l.length ≤ maxLen) (h2 : k.length ≤ maxLen) :
    Calls Tryz.prog 98 #[.slice A l.length c, .slice A' k.length c'] w (RetW w (.bool (sameLs l k))) := by
  have HL := Lib.hid hl
  have HK := Lib.hid hk
  have HB := Lib.hid hB
  obtain ⟨m, hm⟩ : ∃ m, l.length = m := ⟨_, rfl⟩
  obtain ⟨n, hn⟩ : ∃ m, k.length = m := ⟨_, rfl⟩
  have HM := Lib.hid hm
  have HN := Lib.hid hn
  rw [hm] at h1 ⊢
  rw [hn] at h2 ⊢
  have HGL := Lib.hid (show ∀ j, j < m → ∃ x, l[j]? = some x from fun j hj => ⟨l[j]'(by omega), List.getElem?_eq_getElem _⟩)
  have HGK := Lib.hid (show ∀ j, j < n → ∃ x, k[j]? = some x from fun j hj => ⟨k[j]'(by omega), List.getElem?_eq_getElem _⟩)
  have hm0 : m ≤ 9223372036854775807 := by unfold maxLen at h1; omega
  have hn0 : n ≤ 9223372036854775807 := by unfold maxLen at h2; omega
  clear hl hk hB hm hn h1 h2
  go_enter Tryz.func98, Tryz.ntmps98
  by_cases e0 : m = n
  case neg =>
    have q0 : ((m : Int) != (n : Int)) = true := by simp; omega
    have HE := Lib.hid (sameLs_len (l := l) (k := k) (by rw [HM.out, HN.out]; exact e0))
    go_wp2_with fail
    go_ret
    exact ⟨by rw [HE.out]; rfl, Below.refl _ _⟩
  subst e0
  go_upto_region 4 with fail
  go_loopg [13] m (fun gh s13 wr => ∃ (j : Nat), gh + j = m ∧ s13 = .int .i64 j ∧ Hid (sameLs l k = sameLs (l.drop j) (k.drop j)) ∧ Hid (Below w.heap.size w wr))
  case atStart => exact ⟨0, by omega, rfl, Lib.hid rfl, Lib.hid (Below.refl _ _)⟩
  case round =>
    obtain ⟨j, hgj, rfl, HS, HBr⟩ := hrel
    by_cases hj : j < m
    · obtain ⟨x, hx⟩ := HGL.out j hj
      obtain ⟨y, hy⟩ := HGK.out j hj
      have HD := Lib.hid (sameLs_drop hx hy)
      obtain ⟨b, off, hA, hb1, c0, c1, c2⟩ := HL.out j x hx
      obtain ⟨b', off', hA', hb2, d0, d1, d2⟩ := HK.out j y hy
      subst hA hA'
      have hs := HBr.out.block b (by have := HB.out; omega)
      have hs' := HBr.out.block b' (by have := HB.out; omega)
      replace c0 := (World.cell?_of_block (a := ⟨b, off + j * 3, none⟩) hs).trans c0
      replace c1 := (World.cell?_of_block (a := ⟨b, off + j * 3 + 1, none⟩) hs).trans c1
      replace c2 := (World.cell?_of_block (a := ⟨b, off + j * 3 + 2, none⟩) hs).trans c2
      replace d0 := (World.cell?_of_block (a := ⟨b', off' + j * 3, none⟩) hs').trans d0
      replace d1 := (World.cell?_of_block (a := ⟨b', off' + j * 3 + 1, none⟩) hs').trans d1
      replace d2 := (World.cell?_of_block (a := ⟨b', off' + j * 3 + 2, none⟩) hs').trans d2
      have hgd := guard79
      have hnq : ∀ W, (binOp .neq 79 (.agg #[.string x.path, .int .i64 x.kind, .string x.data]) (.agg #[.string y.path, .int .i64 y.kind, .string y.data])).run Tryz.prog W = .ok (.bool (!sameL x y)) W := run_neq79 x y
      clear hx hy hs hs' hb1 hb2
      generalize sameL x y = sxy at *
      obtain ⟨xp, xk, xd⟩ := x
      obtain ⟨yp, yk, yd⟩ := y
      dsimp only at c0 c1 c2 d0 d1 d2 hnq
      cases sxy with
      | true =>
        go_wp2_with fail
        go_quiet (fail)
        go_wp2_with fail
        go_roundg (gk - 1)
        case measure => omega
        case rel => exact ⟨j + 1, by omega, by go_num, Lib.hid (by rw [HS.out, HD.out, Bool.true_and]), Lib.hid (dn.below_drewN HBr.out _)⟩
      | false =>
        go_wp2_with fail
        go_quiet (fail)
        go_wp2_with fail
        go_ret
        exact ⟨by rw [HS.out, HD.out, Bool.false_and]; rfl, dn.below_drewN HBr.out _⟩
    · obtain rfl : j = m := by omega
      have HE := Lib.hid (show sameLs l k = true by rw [HS.out, List.drop_eq_nil_of_le (by rw [HM.out]; exact Nat.le_refl _), List.drop_eq_nil_of_le (by rw [HN.out]; exact Nat.le_refl _)]; rfl)
      go_wp2_with fail
      go_ret
      exact ⟨by rw [HE.out]; rfl, HBr.out⟩
end Go.Proofs.YtnnaoldpacbagaaGreat.fl
end
section
namespace Go.Proofs.YtnnaoldpacbagaaGreat.fl
open Go.RowKit
open Go.Proofs.YtnnaoldpacbagaaGreat.cb (RetW RetI)
open Go.Proofs.YtnnaoldpacbagaaGreat.bl (Pq)
set_option linter.unusedVariables false
set_option linter.unusedSimpArgs false

theorem info162 : ∃ i : TypeInfo, Tryz.prog.info? 162 = some i ∧ i.size = 2 := ⟨(Tryz.prog.info? 162).get (by kernel_rfl), by kernel_rfl, by kernel_rfl⟩
theorem info5 : ∃ i : TypeInfo, Tryz.prog.info? 5 = some i ∧ i.zero = some (.int .u8 0) ∧ i.size = 1 ∧ i.bytes = 1 := ⟨(Tryz.prog.info? 5).get (by kernel_rfl), by kernel_rfl, by kernel_rfl, by kernel_rfl, by kernel_rfl⟩
set_option maxRecDepth 100000 in
set_option maxHeartbeats 1000000 in
theorem check_used (b : Nat) (w : World) (h0 : w.cell? ⟨b, 0, none⟩ = some (Pq b)) : Calls Tryz.prog 142 #[Pq b] w fun e w' => e = .returned (.tuple #[]) ∧ w' = w := by
  obtain ⟨j, hj, _⟩ := info162
  go_enter Tryz.func142, Tryz.ntmps142
  go_wp2
  rw [Lib.run_neq_ptr_same w _ Tryz.underlying160 hj]
  go_wp2
  go_end0
  exact ⟨rfl, rfl⟩
set_option maxRecDepth 100000 in
set_option maxHeartbeats 1000000 in
theorem check_fresh (b : Nat) (w : World) (h0 : w.cell? ⟨b, 0, none⟩ = some (.pointer none)) (hsh : w.shape? b = some (162, 2)) (hfz : w.frozen? ⟨b, 0, none⟩ = false) :
    Calls Tryz.prog 142 #[Pq b] w fun e w' => e = .returned (.tuple #[]) ∧ w' = w.setCell ⟨b, 0, none⟩ (Pq b) := by
  obtain ⟨j, hj, hjs⟩ := info162
  have hl : liesAt Tryz.prog Tryz.prog.depth 162 (2 / Tryz.prog.cellsOf 162) 0 162 1 = true := by kernel_rfl
  go_enter Tryz.func142, Tryz.ntmps142
  go_wp2
  rw [Lib.run_to_unsafe w ⟨b, 0, none⟩ Tryz.underlying160 Tryz.underlying175 hj (by rw [hjs]; decide) hsh (Nat.zero_lt_succ 1)]
  simp only [Result.andThen]
  rw [Oper.upon_value]
  go_wp2
  rw [run_callFunc_extern Tryz.func177 (by kernel_rfl) (by kernel_rfl) (by kernel_rfl) (e := Extern.AbiNoEscape.same) (by kernel_rfl)]
  rw [Lib.run_noEscape]
  simp only [Result.andThen]
  rw [Oper.upon_value]
  go_wp2
  rw [Lib.run_from_unsafe w ⟨b, 0, none⟩ Tryz.underlying175 Tryz.underlying160 hj hsh hl]
  simp only [Result.andThen]
  rw [Oper.upon_value]
  go_wp2
  go_end0
  exact ⟨rfl, rfl⟩
theorem check_any (B b : Nat) (bs : List Value) (w : World) (h : Lib.IsBuilder 162 5 B b bs w) : Calls Tryz.prog 142 #[Pq b] w fun e w' => e = .returned (.tuple #[]) ∧ Lib.BuilderAt 162 5 B b (Pq b) bs w' ∧ Below B w w' ∧ ∀ g, g ≠ b → w'.heap[g]? = w.heap[g]? := by
  rcases h with h | h
  · refine (check_fresh b w h.cell0 h.shape h.frozen0).mono ?_
    rintro e w' ⟨rfl, rfl⟩
    exact ⟨rfl, h.used _, (Below.refl B w).setCell (p := ⟨b, 0, none⟩) h.1 _, fun g hg => Below.heap_setCell _ _ _ _ hg⟩
  · refine (check_used b w h.cell0).mono ?_
    rintro e w' ⟨rfl, rfl⟩
    exact ⟨rfl, h, Below.refl B _, fun _ _ => rfl⟩
theorem bAt_alloc {B b : Nat} {p : Value} {bs : List Value} {w : World} (h : Lib.BuilderAt 162 5 B b p bs w) (o : Obj) : Lib.BuilderAt 162 5 B b p bs (w.alloc o) := by
  have hlt := h.lt
  obtain ⟨hB, v, hb, hown, hne⟩ := h
  exact ⟨hB, v, (Lib.alloc_old w o b hlt).trans hb, hown.alloc o, hne⟩
theorem isB_alloc {B b : Nat} {bs : List Value} {w : World} (h : Lib.IsBuilder 162 5 B b bs w) (o : Obj) : Lib.IsBuilder 162 5 B b bs (w.alloc o) := h.imp (bAt_alloc · o) (bAt_alloc · o)
theorem slice_of {w : World} {B e n : Nat} {v : Value} {xs : List Value} (h : w.ownsRow B e 1 v n xs) : ∃ A c, v = .slice A n c := by
  rcases h.2 with ⟨hv, h0⟩ | ⟨g, cap, cur, hv, _⟩
  · exact ⟨none, 0, by rw [hv, h0]⟩
  · exact ⟨_, _, hv⟩
/-- What a writing call leaves. -/
def PutB (B b : Nat) (bs : List Value) (w w' : World) : Prop := Lib.IsBuilder 162 5 B b bs w' ∧ Below B w w' ∧
  ∀ g, g < w.heap.size → g ≠ b → (∀ cur fr, w.heap[g]? ≠ some (.cells cur 5 fr)) → w'.heap[g]? = w.heap[g]?
theorem not_own {w : World} {B n g : Nat} {v : Value} {xs : List Value} (h : w.ownsRow B 5 1 v n xs) (hg : ∀ cur fr, w.heap[g]? ≠ some (.cells cur 5 fr)) : v.ownBlock ≠ some g := by
  rcases h.2 with ⟨rfl, _⟩ | ⟨k, cap, cur, rfl, _, hk, _⟩
  · simp [Value.ownBlock]
  · intro e
    injection e with e
    dsimp only at e
    rw [e] at hk
    exact hg _ _ hk
set_option maxRecDepth 100000 in
set_option maxHeartbeats 2000000 in
theorem byte_any (B b : Nat) (bs : List Value) (c : Int) (w : World) (h : Lib.IsBuilder 162 5 B b bs w) (hlen : bs.length + 1 ≤ 140737488355328) (hBw : B ≤ w.heap.size) :
    Calls Tryz.prog 100 #[Pq b, .int .u8 c] w fun e w' => e = .returned .nilIface ∧ PutB B b (bs ++ [.int .u8 c]) w w' := by
  obtain ⟨i0, hi, hz0, hz1, hz2⟩ := info5
  have HC := Lib.hid (check_any B b bs w h)
  clear h
  go_enter Tryz.func100, Tryz.ntmps100
  go_wp2_with fail
  refine HC.out.mono ?_
  rintro _ w1 ⟨rfl, h1, hb1, hsm⟩
  have HSM := Lib.hid hsm
  have HB1 := Lib.hid hb1
  have hlt := h1.lt
  obtain ⟨hB, v, hbk, hown, hne⟩ := h1
  have HO := Lib.hid hown
  have c1 : w1.cell? ⟨b, 1, none⟩ = some v := by rw [Lib.cell_of_heap hbk]; rfl
  have HOW := Lib.hid (fun ob => HO.out.alloc (w := w1) ob)
  have HBK := Lib.hid hbk
  have HNE := Lib.hid hne
  have HLT := Lib.hid hlt
  clear hb1 hown hbk hne hlt HC hsm
  go_wp2_with (first | (at_builtin; go_must (refine wpList_append_own _ rfl (.tmp 11) (.tmp 13) 53 rfl B 5 i0 (.int .u8 0) 1 1 Tryz.underlying53 hi hz0 hz1 hz2 rfl (by decide) v bs.length bs rfl (HOW.out _) ⟨w1.heap.size, 0, none⟩ 1 1 [.int .u8 c] rfl rfl (cell_one_new _ _ _) (by intro u hu; simp at hu; subst hu; rfl) (by unfold maxLen; omega) (by omega) (Nat.le_trans hBw (Nat.le_trans HB1.out.size (by rw [World.size_alloc]; exact Nat.le_succ _))) ?_; intro v' w2 hown' hgrow _; obtain ⟨A', c', rfl⟩ := slice_of hown'; have hb2 : w2.heap[b]? = some (.cells #[Pq b, v] 162 (0, 0)) := (hgrow.block b (Nat.lt_of_lt_of_le HLT.out (by rw [World.size_alloc]; exact Nat.le_succ _)) (fun e => HNE.out e.symm)).trans ((Lib.alloc_old w1 _ b HLT.out).trans HBK.out); have HB2 := Lib.hid hb2; have HO2 := Lib.hid hown'; have HKP := Lib.hid (show ∀ g, g < w1.heap.size → v.ownBlock ≠ some g → w2.heap[g]? = w1.heap[g]? from fun g hg hn => (hgrow.block g (Nat.lt_of_lt_of_le hg (by rw [World.size_alloc]; exact Nat.le_succ _)) hn.symm).trans (Lib.alloc_old w1 _ g hg)); have HBE := Lib.hid ((HB1.out.alloc (by have := HB1.out.size; omega) _).grown hgrow (Nat.le_trans hBw (Nat.le_trans HB1.out.size (by rw [World.size_alloc]; exact Nat.le_succ _))) (fun k hk => (HO.out.lt k hk).1)); have d1 : w2.cell? ⟨b, 1, none⟩ = some v := (Lib.cell_of_heap hb2 1); have f1 : w2.frozen? ⟨b, 1, none⟩ = false := Lib.frozen_of_heap hb2 1; clear hb2 hown' hgrow)) | fail)
  go_ret
  refine ⟨rfl, .inr (Lib.BuilderAt.put (T := 162) (e := 5) hB HB2.out (bs' := bs ++ [.int .u8 c]) (by simpa using HO2.out) (by decide)), HBE.out.setCell (p := ⟨b, 1, none⟩) hB _, fun g hg hgb hnt => (Below.heap_setCell _ _ _ _ hgb).trans ((HKP.out g (Nat.lt_of_lt_of_le hg HB1.out.size) (not_own HO.out (fun cur fr => by rw [HSM.out g hgb]; exact hnt cur fr))).trans (HSM.out g hgb))⟩
set_option maxRecDepth 100000 in
set_option maxHeartbeats 2000000 in
theorem str_any (B b : Nat) (bs : List Value) (s : ByteArray) (w : World) (h : Lib.IsBuilder 162 5 B b bs w) (hlen : bs.length + s.size ≤ 140737488355328) (hBw : B ≤ w.heap.size) :
    Calls Tryz.prog 99 #[Pq b, .string s] w fun e w' => e = .returned (.tuple #[.int .i64 s.size, .nilIface]) ∧ PutB B b (bs ++ Lib.strCells s) w w' := by
  obtain ⟨i0, hi, hz0, hz1, hz2⟩ := info5
  have HC := Lib.hid (check_any B b bs w h)
  clear h
  go_enter Tryz.func99, Tryz.ntmps99
  go_wp2_with fail
  refine HC.out.mono ?_
  rintro _ w1 ⟨rfl, h1, hb1, hsm⟩
  have HSM := Lib.hid hsm
  have HB1 := Lib.hid hb1
  have hlt := h1.lt
  obtain ⟨hB, v, hbk, hown, hne⟩ := h1
  have HO := Lib.hid hown
  have c1 : w1.cell? ⟨b, 1, none⟩ = some v := by rw [Lib.cell_of_heap hbk]; rfl
  have HBK := Lib.hid hbk
  have HNE := Lib.hid hne
  have HLT := Lib.hid hlt
  clear hb1 hown hbk hne hlt HC hsm
  go_wp2_with (first | (at_builtin; go_must (refine Lib.wpList_append_own_string _ rfl (.tmp 12) (.tmp 13) 53 9 rfl B 5 i0 Tryz.underlying53 Tryz.underlying9 hi hz0 hz1 hz2 v bs.length bs rfl HO.out s rfl (by unfold maxLen; omega) (by omega) (by have := HB1.out.size; omega) ?_; intro v' w2 hown' hgrow _; obtain ⟨A', c', rfl⟩ := slice_of hown'; have hb2 : w2.heap[b]? = some (.cells #[Pq b, v] 162 (0, 0)) := (hgrow.block b HLT.out (fun e => HNE.out e.symm)).trans HBK.out; have HB2 := Lib.hid hb2; have HO2 := Lib.hid hown'; have HKP := Lib.hid (show ∀ g, g < w1.heap.size → v.ownBlock ≠ some g → w2.heap[g]? = w1.heap[g]? from fun g hg hn => hgrow.block g hg hn.symm); have HBE := Lib.hid (HB1.out.grown hgrow (by have := HB1.out.size; omega) (fun k hk => (HO.out.lt k hk).1)); have d1 : w2.cell? ⟨b, 1, none⟩ = some v := (Lib.cell_of_heap hb2 1); have f1 : w2.frozen? ⟨b, 1, none⟩ = false := Lib.frozen_of_heap hb2 1; clear hb2 hown' hgrow)) | fail)
  go_ret2
  refine ⟨rfl, .inr (Lib.BuilderAt.put (T := 162) (e := 5) hB HB2.out (bs' := bs ++ Lib.strCells s) (by simpa [Lib.strCells_length] using HO2.out) (by decide)), HBE.out.setCell (p := ⟨b, 1, none⟩) hB _, fun g hg hgb hnt => (Below.heap_setCell _ _ _ _ hgb).trans ((HKP.out g (Nat.lt_of_lt_of_le hg HB1.out.size) (not_own HO.out (fun cur fr => by rw [HSM.out g hgb]; exact hnt cur fr))).trans (HSM.out g hgb))⟩
end Go.Proofs.YtnnaoldpacbagaaGreat.fl
end
section
namespace Go.Proofs.YtnnaoldpacbagaaGreat.fl
open Go.RowKit
open Go.Proofs.YtnnaoldpacbagaaGreat.cb (RetW RetI)
open Go.Proofs.YtnnaoldpacbagaaGreat.bl (Pq)
set_option linter.unusedVariables false
set_option linter.unusedSimpArgs false

def kbyte (k : Int) : UInt8 := UInt8.ofNat ((48 + k) % 256).toNat
def lineB (x : Ln) : List UInt8 := x.path.data.toList ++ ([0] ++ ([kbyte x.kind] ++ (x.data.data.toList ++ ([0] ++ [10]))))
def textB (l : List Ln) : List UInt8 := l.flatMap lineB
def textV (l : List Ln) : ByteArray := ⟨(textB l).toArray⟩
theorem textB_take {l : List Ln} {j : Nat} {x : Ln} (h : l[j]? = some x) : textB (l.take (j + 1)) = textB (l.take j) ++ lineB x := by
  unfold textB
  rw [List.take_add_one, h, List.flatMap_append]; simp
theorem textB_le (l : List Ln) (j : Nat) : (textB (l.take j)).length ≤ (textB l).length := by
  conv => rhs; rw [← List.take_append_drop j l]
  unfold textB
  rw [List.flatMap_append, List.length_append]; omega
theorem kbyte_val (k : Int) : IntKind.u8.wrap (wrap64 (48 + k)) = ((kbyte k).toNat : Int) := by
  unfold kbyte
  have h1 : ((48 + k) % 256).toNat < 256 := by omega
  rw [UInt8.toNat_ofNat_of_lt' h1]
  have h2 : IntKind.u8.wrap (wrap64 (48 + k)) = wrap64 (48 + k) % 256 := rfl
  rw [h2]
  unfold wrap64
  omega
theorem bc_app (L M : List UInt8) : Lib.byteCells (L ++ M) = Lib.byteCells L ++ Lib.byteCells M := by unfold Lib.byteCells; rw [List.map_append]
theorem byteB {B b : Nat} {L : List UInt8} {c : UInt8} {w : World} (h : Lib.IsBuilder 162 5 B b (Lib.byteCells L) w) (hlen : L.length ≤ 10000000) (hBw : B ≤ w.heap.size) :
    Calls Tryz.prog 100 #[Pq b, .int .u8 (c.toNat : Int)] w fun e w' => e = .returned .nilIface ∧ PutB B b (Lib.byteCells (L ++ [c])) w w' := by
  rw [bc_app]
  exact byte_any B b _ _ w h (by rw [Lib.byteCells_length]; omega) hBw
theorem strB {B b : Nat} {L : List UInt8} {s : ByteArray} {w : World} (h : Lib.IsBuilder 162 5 B b (Lib.byteCells L) w) (hlen : L.length + s.data.toList.length ≤ 20000000) (hBw : B ≤ w.heap.size) :
    Calls Tryz.prog 99 #[Pq b, .string s] w fun e w' => e = .returned (.tuple #[.int .i64 s.size, .nilIface]) ∧ PutB B b (Lib.byteCells (L ++ s.data.toList)) w w' := by
  rw [bc_app]
  exact str_any B b _ s w h (by rw [Lib.byteCells_length]; have : s.size = s.data.toList.length := by rw [Array.length_toList]; rfl
                                omega) hBw
/-- A line in a box. -/
def Bx (w : World) (g : Nat) (x : Ln) : Prop := w.heap[g]? = some (.cells #[.string x.path, .int .i64 x.kind, .string x.data] 79 (0, 0))
theorem Bx.put {w w' : World} {B b g : Nat} {bs : List Value} {x : Ln} (h : Bx w g x) (hp : PutB B b bs w w') (hg : g ≠ b) : Bx w' g x := by
  have hlt : g < w.heap.size := (Array.getElem?_eq_some_iff.1 h).1
  refine (hp.2.2 g hlt hg (fun cur fr e => ?_)).trans h
  unfold Bx at h
  rw [h] at e
  injection e with e
  injection e with _ e _
  exact absurd e (by decide)
theorem Bx.cells {w : World} {g : Nat} {x : Ln} (h : Bx w g x) : w.cell? ⟨g, 0, none⟩ = some (.string x.path) ∧ w.cell? ⟨g, 1, none⟩ = some (.int .i64 x.kind) ∧ w.cell? ⟨g, 2, none⟩ = some (.string x.data) :=
  ⟨(Lib.cell_of_heap h 0).trans rfl, (Lib.cell_of_heap h 1).trans rfl, (Lib.cell_of_heap h 2).trans rfl⟩
set_option maxRecDepth 100000 in
set_option maxHeartbeats 8000000 in
theorem text_any {w : World} {B : Nat} {A : Option Addr} {l : List Ln} {c : Nat} (hl : LR w B A l) (hB : B ≤ w.heap.size) (hn : l.length ≤ maxLen) (hs : (textB l).length ≤ 9000000) :
    Calls Tryz.prog 42 #[.slice A l.length c] w (RetW w (.string (textV l))) := by
  have HL := Lib.hid hl
  have HBB := Lib.hid hB
  have HSZ := Lib.hid hs
  obtain ⟨m, hm⟩ : ∃ m, l.length = m := ⟨_, rfl⟩
  have HM := Lib.hid hm
  rw [hm] at hn ⊢
  have hm0 : m ≤ 9223372036854775807 := by unfold maxLen at hn; omega
  have HGL := Lib.hid (show ∀ j, j < m → ∃ x, l[j]? = some x from fun j hj => ⟨l[j]'(by omega), List.getElem?_eq_getElem _⟩)
  obtain ⟨b, hb⟩ : ∃ b, w.heap.size = b := ⟨_, rfl⟩
  have HBE := Lib.hid hb
  obtain ⟨w1, hw1⟩ : ∃ w1, w.alloc (.cells #[.pointer none, .slice none 0 0] 162) = w1 := ⟨_, rfl⟩
  have HI1 := Lib.hid (show Lib.IsBuilder 162 5 b b (Lib.byteCells []) w1 by rw [← hw1, ← hb]; exact Lib.fresh_isBuilder 162 5 w)
  have HB1 := Lib.hid (show Below w.heap.size w w1 by rw [← hw1]; exact (Below.refl _ _).alloc (Nat.le_refl _) _)
  have HZ1 := Lib.hid (show b < w1.heap.size by rw [← hw1, World.size_alloc]; omega)
  clear hl hB hs hm hn
  go_enter Tryz.func42, Tryz.ntmps42
  go_upto_region 3 with fail
  try rw [hw1]
  clear hw1 hb
  go_loopg [8] m (fun gh s8 wr => ∃ (j : Nat), gh + j = m ∧ s8 = .int .i64 j ∧ Hid (Lib.IsBuilder 162 5 b b (Lib.byteCells (textB (l.take j))) wr) ∧ Hid (Below w.heap.size w wr ∧ b < wr.heap.size))
  case atStart => exact ⟨0, by omega, rfl, HI1, Lib.hid ⟨HB1.out, HZ1.out⟩⟩
  case round =>
    clear HI1 HB1 HZ1
    obtain ⟨j, hgj, rfl, HI, HB⟩ := hrel
    by_cases hj : j < m
    · obtain ⟨x, hx⟩ := HGL.out j hj
      have HTT := Lib.hid (textB_take hx)
      have HLE := Lib.hid (show (textB (l.take j)).length + (lineB x).length ≤ 9000000 by rw [← List.length_append, ← textB_take hx]; exact Nat.le_trans (textB_le l (j + 1)) HSZ.out)
      obtain ⟨bb, off, hA, hbB, c0, c1, c2⟩ := HL.out j x hx
      subst hA
      have hsm := HB.out.1.block bb (by have := HBB.out; omega)
      replace c0 := (World.cell?_of_block (a := ⟨bb, off + j * 3, none⟩) hsm).trans c0
      replace c1 := (World.cell?_of_block (a := ⟨bb, off + j * 3 + 1, none⟩) hsm).trans c1
      replace c2 := (World.cell?_of_block (a := ⟨bb, off + j * 3 + 2, none⟩) hsm).trans c2
      obtain ⟨xp, xk, xd⟩ := x
      dsimp only at c0 c1 c2
      obtain ⟨w2, hw2⟩ : ∃ w2, wr.alloc (.cells #[.string xp, .int .i64 xk, .string xd] 79) = w2 := ⟨_, rfl⟩
      have hb2 : Below wr.heap.size wr w2 := by rw [← hw2]; exact (Below.refl _ _).alloc (Nat.le_refl _) _
      have HX2 := Lib.hid (show Bx w2 wr.heap.size ⟨xp, xk, xd⟩ by rw [← hw2]; exact heap_alloc_new wr _)
      have HI2 := Lib.hid (show Lib.IsBuilder 162 5 b b (Lib.byteCells (textB (l.take j))) w2 by rw [← hw2]; exact isB_alloc HI.out _)
      have HB2 := Lib.hid (show Below w.heap.size w w2 from HB.out.1.trans (hb2.mono HB.out.1.size))
      obtain ⟨g, hg⟩ : ∃ g, wr.heap.size = g := ⟨_, rfl⟩
      have HG := Lib.hid (show g ≠ b from by have := HB.out.2; omega)
      rw [hg] at HX2
      obtain ⟨L0, hL0⟩ : ∃ L, textB (l.take j) = L := ⟨_, rfl⟩
      rw [hL0] at HI2 HTT HLE
      have HLL := Lib.hid (show L0.length + xp.data.toList.length + xd.data.toList.length + 4 ≤ 9000000 by have := HLE.out; unfold lineB at this; simp only [List.length_append, List.length_cons, List.length_nil] at this; omega)
      obtain ⟨e0, -, -⟩ := HX2.out.cells
      dsimp only at e0
      have HP := Lib.hid (strB (s := xp) HI2.out (by have := HLL.out; omega) (by rw [← HBE.out]; exact HB2.out.size))
      clear hx hsm hbB hb2 hL0
      go_wp2_with fail
      refine HP.out.mono ?_
      rintro _ w3 ⟨rfl, hp3⟩
      have HX3 := Lib.hid (HX2.out.put hp3 HG.out)
      have HI3 := Lib.hid hp3.1
      have HB3 := Lib.hid (HB2.out.trans (by rw [HBE.out]; exact hp3.2.1))
      clear hp3 HP c0 c1 c2 e0 hw2 hg HX2 HI2 HB2
      have HP := Lib.hid (byteB (c := 0) HI3.out (by have := HLL.out; rw [List.length_append]; omega) (by rw [← HBE.out]; exact HB3.out.size))
      go_wp2_with fail
      refine HP.out.mono ?_
      rintro _ w4 ⟨rfl, hp4⟩
      have HX4 := Lib.hid (HX3.out.put hp4 HG.out)
      have HI4 := Lib.hid hp4.1
      have HB4 := Lib.hid (HB3.out.trans (by rw [HBE.out]; exact hp4.2.1))
      clear hp4 HP HX3 HI3 HB3
      obtain ⟨-, e1, -⟩ := HX4.out.cells
      dsimp only at e1
      have HP := Lib.hid (byteB (c := kbyte xk) HI4.out (by have := HLL.out; simp only [List.length_append, List.length_cons, List.length_nil]; omega) (by rw [← HBE.out]; exact HB4.out.size))
      have hkb := kbyte_val xk
      go_wp2_with fail
      try rw [hkb]
      refine HP.out.mono ?_
      rintro _ w5 ⟨rfl, hp5⟩
      have HX5 := Lib.hid (HX4.out.put hp5 HG.out)
      have HI5 := Lib.hid hp5.1
      have HB5 := Lib.hid (HB4.out.trans (by rw [HBE.out]; exact hp5.2.1))
      clear hp5 HP HX4 HI4 HB4 e1 hkb
      obtain ⟨-, -, e2⟩ := HX5.out.cells
      dsimp only at e2
      have HP := Lib.hid (strB (s := xd) HI5.out (by have := HLL.out; simp only [List.length_append, List.length_cons, List.length_nil]; omega) (by rw [← HBE.out]; exact HB5.out.size))
      go_wp2_with fail
      refine HP.out.mono ?_
      rintro _ w6 ⟨rfl, hp6⟩
      have HI6 := Lib.hid hp6.1
      have HB6 := Lib.hid (HB5.out.trans (by rw [HBE.out]; exact hp6.2.1))
      clear hp6 HP HX5 HI5 HB5 e2
      have HP := Lib.hid (byteB (c := 0) HI6.out (by have := HLL.out; simp only [List.length_append, List.length_cons, List.length_nil]; omega) (by rw [← HBE.out]; exact HB6.out.size))
      go_wp2_with fail
      refine HP.out.mono ?_
      rintro _ w7 ⟨rfl, hp7⟩
      have HI7 := Lib.hid hp7.1
      have HB7 := Lib.hid (HB6.out.trans (by rw [HBE.out]; exact hp7.2.1))
      clear hp7 HP HI6 HB6
      have HP := Lib.hid (byteB (c := 10) HI7.out (by have := HLL.out; simp only [List.length_append, List.length_cons, List.length_nil]; omega) (by rw [← HBE.out]; exact HB7.out.size))
      go_wp2_with fail
      refine HP.out.mono ?_
      rintro _ w8 ⟨rfl, hp8⟩
      have HI8 := Lib.hid (show Lib.IsBuilder 162 5 b b (Lib.byteCells (textB (l.take (j + 1)))) w8 by
        have := hp8.1
        rw [HTT.out]
        unfold lineB
        simpa only [List.append_assoc] using this)
      have HB8 := Lib.hid (HB7.out.trans (by rw [HBE.out]; exact hp8.2.1))
      have HZ8 := Lib.hid (show b < w8.heap.size from by
        rcases hp8.1 with h | h <;> exact h.lt)
      clear hp8 HP HI7 HB7
      go_wp2_with fail
      go_roundg (gk - 1)
      case measure => omega
      case rel => exact ⟨j + 1, by omega, by go_num, HI8, Lib.hid ⟨HB8.out, HZ8.out⟩⟩
    · obtain rfl : j = m := by omega
      have HE := Lib.hid (show l.take j = l from List.take_of_length_le (by rw [HM.out]; exact Nat.le_refl _))
      have HP := Lib.hid (Tryz.Builder_String_any b b (textB l) wr (by rw [← HE.out]; simpa only [HE.out] using HI.out) (by have := HB.out.2; omega))
      go_wp2_with fail
      refine HP.out.mono ?_
      rintro _ w2 ⟨rfl, hb2⟩
      have HB2 := Lib.hid (HB.out.1.trans (by rw [HBE.out]; exact hb2))
      clear hb2 HP
      go_wp2_with fail
      go_ret
      exact ⟨rfl, HB2.out⟩
end Go.Proofs.YtnnaoldpacbagaaGreat.fl
end
section
namespace Go.Proofs.YtnnaoldpacbagaaGreat.fl
open Go.RowKit
open Go.Proofs.YtnnaoldpacbagaaGreat.cb (RetW RetI)
open Go.Proofs.YtnnaoldpacbagaaGreat.bl (Pq)
set_option linter.unusedVariables false
set_option linter.unusedSimpArgs false

set_option maxRecDepth 100000 in
set_option maxHeartbeats 2000000 in
theorem same_any {w : World} {B : Nat} {A A' : Option Addr} {l k : List Ln} {c c' : Nat} (hl : LR w B A l) (hk : LR w B A' k) (hB : B ≤ w.heap.size) (h1 : l.length ≤ maxLen) (h2 : k.length ≤ maxLen) :
    Calls Tryz.prog 41 #[.slice A l.length c, .slice A' k.length c'] w (RetW w (.bool (sameLs l k))) := by
  have HE := Lib.hid (equal_any (c := c) (c' := c') hl hk hB h1 h2)
  unfold RetW at HE
  generalize sameLs l k = r at *
  generalize l.length = m at *
  generalize k.length = n at *
  clear hl hk
  go_enter Tryz.func41, Tryz.ntmps41
  go_wp2_with fail
  refine HE.out.mono ?_
  rintro _ w1 ⟨rfl, hb1⟩
  have HB := Lib.hid hb1
  clear hb1 HE
  go_wp2_with fail
  go_ret
  exact ⟨rfl, HB.out⟩
set_option maxRecDepth 100000 in
set_option maxHeartbeats 4000000 in
theorem rsame_any {w : World} {B : Nat} {A A' : Option Addr} {l k : List Ln} {c c' : Nat} (hl : LR w B A l) (hk : LR w B A' k) (hB : B ≤ w.heap.size) (h1 : l.length ≤ maxLen) (h2 : k.length ≤ maxLen) :
    Calls Tryz.prog 37 #[.slice A l.length c, .slice A' k.length c'] w (RetW w (.bool (sameLs l k))) := by
  have HL := Lib.hid hl
  have HK := Lib.hid hk
  have HB := Lib.hid hB
  obtain ⟨m, hm⟩ : ∃ m, l.length = m := ⟨_, rfl⟩
  obtain ⟨n, hn⟩ : ∃ m, k.length = m := ⟨_, rfl⟩
  have HM := Lib.hid hm
  have HN := Lib.hid hn
  rw [hm] at h1 ⊢
  rw [hn] at h2 ⊢
  have HGL := Lib.hid (show ∀ j, j < m → ∃ x, l[j]? = some x from fun j hj => ⟨l[j]'(by omega), List.getElem?_eq_getElem _⟩)
  have HGK := Lib.hid (show ∀ j, j < n → ∃ x, k[j]? = some x from fun j hj => ⟨k[j]'(by omega), List.getElem?_eq_getElem _⟩)
  have hm0 : m ≤ 9223372036854775807 := by unfold maxLen at h1; omega
  have hn0 : n ≤ 9223372036854775807 := by unfold maxLen at h2; omega
  clear hl hk hB hm hn h1 h2
  go_enter Tryz.func37, Tryz.ntmps37
  by_cases e0 : m = n
  case neg =>
    have q0 : ((m : Int) != (n : Int)) = true := by simp; omega
    have HE := Lib.hid (sameLs_len (l := l) (k := k) (by rw [HM.out, HN.out]; exact e0))
    go_wp2_with fail
    go_ret
    exact ⟨by rw [HE.out]; rfl, Below.refl _ _⟩
  subst e0
  go_upto_region 4 with fail
  go_loopg [5] m (fun gh s5 wr => ∃ (j : Nat), gh + j = m ∧ s5 = .int .i64 j ∧ Hid (sameLs l k = sameLs (l.drop j) (k.drop j)) ∧ Hid (Below w.heap.size w wr))
  case atStart => exact ⟨0, by omega, rfl, Lib.hid rfl, Lib.hid (Below.refl _ _)⟩
  case round =>
    obtain ⟨j, hgj, rfl, HS, HBr⟩ := hrel
    by_cases hj : j < m
    · obtain ⟨x, hx⟩ := HGL.out j hj
      obtain ⟨y, hy⟩ := HGK.out j hj
      have HD := Lib.hid (sameLs_drop hx hy)
      obtain ⟨b, off, hA, hb1, c0, c1, c2⟩ := HL.out j x hx
      obtain ⟨b', off', hA', hb2, d0, d1, d2⟩ := HK.out j y hy
      subst hA hA'
      have hs := HBr.out.block b (by have := HB.out; omega)
      have hs' := HBr.out.block b' (by have := HB.out; omega)
      replace c0 := (World.cell?_of_block (a := ⟨b, off + j * 3, none⟩) hs).trans c0
      replace c1 := (World.cell?_of_block (a := ⟨b, off + j * 3 + 1, none⟩) hs).trans c1
      replace c2 := (World.cell?_of_block (a := ⟨b, off + j * 3 + 2, none⟩) hs).trans c2
      replace d0 := (World.cell?_of_block (a := ⟨b', off' + j * 3, none⟩) hs').trans d0
      replace d1 := (World.cell?_of_block (a := ⟨b', off' + j * 3 + 1, none⟩) hs').trans d1
      replace d2 := (World.cell?_of_block (a := ⟨b', off' + j * 3 + 2, none⟩) hs').trans d2
      have hgd := guard79
      have hnq : ∀ W, (binOp .neq 79 (.agg #[.string x.path, .int .i64 x.kind, .string x.data]) (.agg #[.string y.path, .int .i64 y.kind, .string y.data])).run Tryz.prog W = .ok (.bool (!sameL x y)) W := run_neq79 x y
      clear hx hy hs hs' hb1 hb2
      generalize sameL x y = sxy at *
      obtain ⟨xp, xk, xd⟩ := x
      obtain ⟨yp, yk, yd⟩ := y
      dsimp only at c0 c1 c2 d0 d1 d2 hnq
      cases sxy with
      | true =>
        go_wp2_with fail
        go_quiet (fail)
        go_wp2_with fail
        go_roundg (gk - 1)
        case measure => omega
        case rel => exact ⟨j + 1, by omega, by go_num, Lib.hid (by rw [HS.out, HD.out, Bool.true_and]), Lib.hid (dn.below_drewN HBr.out _)⟩
      | false =>
        go_wp2_with fail
        go_quiet (fail)
        go_wp2_with fail
        go_ret
        exact ⟨by rw [HS.out, HD.out, Bool.false_and]; rfl, dn.below_drewN HBr.out _⟩
    · obtain rfl : j = m := by omega
      have HE := Lib.hid (show sameLs l k = true by rw [HS.out, List.drop_eq_nil_of_le (by rw [HM.out]; exact Nat.le_refl _), List.drop_eq_nil_of_le (by rw [HN.out]; exact Nat.le_refl _)]; rfl)
      go_wp2_with fail
      go_ret
      exact ⟨by rw [HE.out]; rfl, HBr.out⟩
/-- The size of lines as the law counts it. -/
def sumS (l : List Ln) : Nat := (l.map fun x => x.data.size + x.path.size).sum
theorem sumS_take {l : List Ln} {j : Nat} {x : Ln} (h : l[j]? = some x) : sumS (l.take (j + 1)) = sumS (l.take j) + (x.data.size + x.path.size) := by
  unfold sumS
  rw [List.take_add_one, h, List.map_append, List.sum_append]
  simp
def LargeE (w : World) (l : List Ln) (e : Ending) (w' : World) : Prop := ∃ r : Bool, e = .returned (.bool r) ∧ Below w.heap.size w w' ∧ (r = false → l.length ≤ 301 ∧ sumS l ≤ 131072)
set_option maxRecDepth 100000 in
set_option maxHeartbeats 4000000 in
theorem large_any {w : World} {B : Nat} {A : Option Addr} {l : List Ln} {c : Nat} (hl : LR w B A l) (hB : B ≤ w.heap.size) (hn : l.length ≤ maxLen) (hz : ∀ x ∈ l, x.path.size ≤ maxLen ∧ x.data.size ≤ maxLen) :
    Calls Tryz.prog 40 #[.slice A l.length c] w (LargeE w l) := by
  have HL := Lib.hid hl
  have HBB := Lib.hid hB
  have HZZ := Lib.hid hz
  obtain ⟨m, hm⟩ : ∃ m, l.length = m := ⟨_, rfl⟩
  have HM := Lib.hid hm
  rw [hm] at hn ⊢
  have hm0 : m ≤ 9223372036854775807 := by unfold maxLen at hn; omega
  have HGL := Lib.hid (show ∀ j, j < m → ∃ x, l[j]? = some x from fun j hj => ⟨l[j]'(by omega), List.getElem?_eq_getElem _⟩)
  have HD := Lib.hid (show ∀ (W : World), Below w.heap.size w W → LargeE w l (.returned (.bool true)) W from fun W hb => ⟨true, rfl, hb, fun h => absurd h (by decide)⟩)
  have HD2 := Lib.hid (show ∀ (W : World), Below w.heap.size w W → m ≤ 301 → sumS l ≤ 131072 → LargeE w l (.returned (.bool false)) W from fun W hb h1 h2 => ⟨false, rfl, hb, fun _ => ⟨by rw [HM.out]; exact h1, h2⟩⟩)
  clear hl hB hm hn hz
  go_enter Tryz.func40, Tryz.ntmps40
  go_upto_region 3 with fail
  go_loopg [3, 7] m (fun gh s3 s7 wr => ∃ (j n : Nat), gh + j = m ∧ s3 = .int .i64 n ∧ s7 = .int .i64 j ∧ n ≤ 131072 ∧ j ≤ 301 ∧ Hid (n = sumS (l.take j)) ∧ Hid (Below w.heap.size w wr))
  case atStart => exact ⟨0, 0, by omega, rfl, rfl, by omega, by omega, Lib.hid rfl, Lib.hid (Below.refl _ _)⟩
  case round =>
    obtain ⟨j, n, hgj, rfl, rfl, hn1, hj1, HS, HBr⟩ := hrel
    by_cases hj : j < m
    · obtain ⟨x, hx⟩ := HGL.out j hj
      have HTK := Lib.hid (sumS_take hx)
      have hzz := HZZ.out x (List.mem_of_getElem? hx)
      obtain ⟨b, off, hA, hb1, c0, c1, c2⟩ := HL.out j x hx
      subst hA
      have hs := HBr.out.block b (by have := HBB.out; omega)
      replace c0 := (World.cell?_of_block (a := ⟨b, off + j * 3, none⟩) hs).trans c0
      replace c1 := (World.cell?_of_block (a := ⟨b, off + j * 3 + 1, none⟩) hs).trans c1
      replace c2 := (World.cell?_of_block (a := ⟨b, off + j * 3 + 2, none⟩) hs).trans c2
      obtain ⟨xp, xk, xd⟩ := x
      dsimp only at c0 c1 c2 HTK hzz
      have hp0 : xp.size ≤ 9223372036854775807 := by have := hzz.1; unfold maxLen at this; omega
      have hd0 : xd.size ≤ 9223372036854775807 := by have := hzz.2; unfold maxLen at this; omega
      clear hx hs hb1 hzz
      obtain ⟨xs, hxs⟩ : ∃ d, xd.size = d := ⟨_, rfl⟩
      obtain ⟨ps, hps⟩ : ∃ d, xp.size = d := ⟨_, rfl⟩
      have S0 : wr.cell? ⟨b, off + j * 3, none⟩ = some (.string xp) ∧ wr.cell? ⟨b, off + j * 3 + 2, none⟩ = some (.string xd) := ⟨c0, c2⟩
      rw [hxs, hps] at HTK
      rw [hxs] at hd0
      rw [hps] at hp0
      go_wp2_with fail
      go_region_held3 (fun w' => w'.cell? ⟨b, off + j * 3, none⟩ = some (.string xp) ∧ w'.cell? ⟨b, off + j * 3 + 2, none⟩ = some (.string xd)) (first | with_reducible exact S0 | assumption | go_keep) (fail)
      all_goals
        have hw : IntKind.i64.wrap ((n : Int) + IntKind.i64.wrap (min (xs : Int) 262144 + min (ps : Int) 262144)) = ((n + min xs 262144 + min ps 262144 : Nat) : Int) := by
          rw [IntWalk.i64_in (min (xs : Int) 262144 + min (ps : Int) 262144) (by omega), IntWalk.i64_in _ (by omega)]
          omega
        rw [hw]
        obtain ⟨nn, hnn⟩ : ∃ k, n + min xs 262144 + min ps 262144 = k := ⟨_, rfl⟩
        have HNN := Lib.hid hnn
        have hnb : nn ≤ 1000000 := by omega
        rw [hnn]
        have HBD := Lib.hid (HBr.out.drew)
        clear hw hnn S0 c0 c1 c2 hxs hps hp0 hd0
        by_cases h1 : nn ≤ 131072
        · by_cases h2 : j ≤ 300
          · have HS2 := Lib.hid (show nn = sumS (l.take (j + 1)) by rw [HTK.out, ← HS.out]; have := HNN.out; omega)
            go_wp2_with fail
            go_roundg (gk - 1)
            case measure => omega
            case rel => exact ⟨j + 1, nn, by omega, rfl, by go_num, h1, by omega, HS2, HBD⟩
          · have h3 : (300 : Int) < (j : Int) := by omega
            go_wp2_with fail
            go_ret
            exact HD.out _ HBD.out
        · have h3 : (131072 : Int) < (nn : Int) := by omega
          go_wp2_with fail
          go_ret
          exact HD.out _ HBD.out
    · obtain rfl : j = m := by omega
      have HE := Lib.hid (show sumS l ≤ 131072 by have := HS.out; rw [List.take_of_length_le (by rw [HM.out]; exact Nat.le_refl _)] at this; omega)
      go_wp2_with fail
      go_ret
      exact HD2.out wr HBr.out hj1 HE.out
end Go.Proofs.YtnnaoldpacbagaaGreat.fl
end
