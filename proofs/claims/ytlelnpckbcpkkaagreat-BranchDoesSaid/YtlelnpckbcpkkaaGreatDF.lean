/- Entries held against each other; the document's All. -/
import Derived.Test.YtlelnpckbcpkkaaGreatDE
import Derived.Laws.StructEq
namespace Go.Proofs.YtlelnpckbcpkkaaGreat.cb
open Go.RowKit Go.Shelf
open Go.Proofs.YtlelnpckbcpkkaaGreat.br
open Go.Proofs.YtlelnpckbcpkkaaGreat.dn (En Ev beq_names Ao lget lset ldel nerr dotB Sorted getV DuX LaidX RetB ERow encL encL_length encL_one below_drewN row_new below_grown_far below_alloc info37)
open Go.Proofs.YtlelnpckbcpkkaaGreat.bl (AB Only StoC Pq cut cutR wr WR U8 RF)
open Go.Proofs.YtlelnpckbcpkkaaGreat.bl.rx (RB RS2 Kp)
set_option linter.unusedVariables false
set_option linter.unusedSimpArgs false


theorem en_eq (x y : En) : (x.1.toList == y.1.toList && x.2 == y.2) = decide (x = y) := by
  rw [beq_names]
  by_cases h : x = y
  · subst h; simp
  · rw [decide_eq_false h]
    by_cases h1 : x.1 = y.1
    · have h2 : x.2 ≠ y.2 := fun e => h (Prod.ext h1 e)
      simp [h2]
    · simp [h1]
theorem run_equal59 (x y : En) (w : World) : (Op.equalIn 10000 59 (Ev x) (Ev y)).run Tryz.prog w = .ok (decide (x = y)) w := by
  have hS : Tryz.prog.underlying 59 = some (.struct (Tryz.prog.fieldsOf 59)) := by kernel_rfl
  have hp : Tryz.prog.stoodInHeld 59 = false := by kernel_rfl
  have u3 := Tryz.underlying3
  have u9 := Tryz.underlying9
  have a3 := Tryz.isAgg3
  have z3 := Tryz.sizeOf3
  have a9 := Tryz.isAgg9
  have z9 := Tryz.sizeOf9
  rw [show (10000 : Nat) = 9999 + 1 from rfl, run_equalIn_agg w 9999 59 _ _ hS hp, ← en_eq]
  simp only [Program.fieldsOf, Tryz.underlying59]
  go_simp
  by_cases h1 : x.1.toList = y.1.toList <;> by_cases h2 : x.2 = y.2 <;> simp [h1, h2]
theorem run_neq59 (x y : En) (w : World) : (binOp .neq 59 (Ev x) (Ev y)).run Tryz.prog w = .ok (.bool (!decide (x = y))) w := by
  rw [run_neq_struct, run_equal59]; rfl
theorem run_eql59 (x y : En) (w : World) : (binOp .eql 59 (Ev x) (Ev y)).run Tryz.prog w = .ok (.bool (decide (x = y))) w := by
  rw [run_eql_struct, run_equal59]; rfl
theorem guard59 (op : BinOp) (a b : Operand) (xs ys : Array Value) (w : World) : (eqGuard op 59 a b (.agg xs) (.agg ys)).run Tryz.prog w = .ok () w := run_eqGuard_agg w op 59 a b xs ys (by kernel_rfl)

/-- A slice of entries that reads as a list, below block B. -/
def ReadsQ (w : World) (B : Nat) (A : Option Addr) (L : List En) : Prop := ∀ i x, L[i]? = some x → ∃ G, A = some ⟨G, 0, none⟩ ∧ G < B ∧ w.cell? ⟨G, i * 2, none⟩ = some (.string x.1) ∧ w.cell? ⟨G, i * 2 + 1, none⟩ = some (.int .i64 x.2)
theorem ReadsQ.below {w w' : World} {B : Nat} {A : Option Addr} {L : List En} (h : ReadsQ w B A L) (hb : Below B w w') : ReadsQ w' B A L := fun i x hx => by
  obtain ⟨G, e, hG, h0, h1⟩ := h i x hx
  exact ⟨G, e, hG, (hb.cell (p := ⟨G, i * 2, none⟩) hG).trans h0, (hb.cell (p := ⟨G, i * 2 + 1, none⟩) hG).trans h1⟩
theorem ReadsQ.of_sl {w : World} {lo c : Nat} {o : Option Nat} {L : List En} (h : dn.Sl w lo o c L) : ReadsQ w w.heap.size (Ao o) L := fun i x hx => by
  cases o with
  | none => obtain ⟨rfl, -⟩ := h; simp at hx
  | some G => exact ⟨G, rfl, h.2.lt, (h.2.at_ hx).1, (h.2.at_ hx).2⟩

set_option maxHeartbeats 4000000 in
theorem same_any (A B : Option Addr) (n m c d : Nat) (L K : List En) (w : World) (hn : n = L.length) (hm : m = K.length) (hN : n ≤ 1000000) (hM : m ≤ 1000000) (h1 : ReadsQ w w.heap.size A L) (h2 : ReadsQ w w.heap.size B K) :
    Calls Tryz.prog 65 #[.slice A n c, .slice B m d] w (RetB w (decide (L = K))) := by
  have HL := Lib.hid hn
  have HM := Lib.hid hm
  have HR1 := Lib.hid h1
  have HR2 := Lib.hid h2
  by_cases hnm : n = m
  · subst hnm
    obtain ⟨r, hr⟩ : ∃ r, decide (L = K) = r := ⟨_, rfl⟩
    have HD := Lib.hid hr
    rw [hr]
    clear hn hm h1 h2 hr hM
    go_enter Tryz.func65, Tryz.ntmps65
    go_wp2_with fail
    go_loopg [13] n (fun g s wr => ∃ k : Nat, g + k = n ∧ s = .int .i64 k ∧ Hid (L.take k = K.take k) ∧ Hid (Below w.heap.size w wr))
    case atStart => exact ⟨0, by omega, rfl, Lib.hid (by simp), Lib.hid (Below.refl _ _)⟩
    case round =>
      obtain ⟨k, hgk, rfl, HT, HB⟩ := hrel
      by_cases hkn : k < n
      · have hx : L[k]? = some (L[k]'(by rw [← HL.out]; exact hkn)) := List.getElem?_eq_getElem _
        have hy : K[k]? = some (K[k]'(by rw [← HM.out]; exact hkn)) := List.getElem?_eq_getElem _
        have HX := Lib.hid hx
        have HY := Lib.hid hy
        obtain ⟨G, rfl, hG, f0, f1⟩ := (HR1.out.below HB.out) k _ hx
        obtain ⟨E, rfl, hE, g0, g1⟩ := (HR2.out.below HB.out) k _ hy
        generalize L[k]'(by rw [← HL.out]; exact hkn) = x at *
        generalize K[k]'(by rw [← HM.out]; exact hkn) = y at *
        clear hx hy
        have hgd := guard59
        by_cases hxy : x = y
        · have hne : ∀ W, (binOp .neq 59 (Ev x) (Ev y)).run Tryz.prog W = .ok (.bool false) W := fun W => by rw [run_neq59, decide_eq_true hxy]; rfl
          have HT2 := Lib.hid (show L.take (k + 1) = K.take (k + 1) by rw [List.take_add_one, List.take_add_one, HT.out, HX.out, HY.out, hxy])
          obtain ⟨xs, xv⟩ := x
          obtain ⟨ys, yv⟩ := y
          dsimp only [Ev] at f0 f1 g0 g1 hne
          clear hxy
          go_wp2_with fail
          go_quiet (fail)
          go_wp2_with fail
          go_roundg (gk - 1)
          case measure => omega
          case rel => exact ⟨k + 1, by omega, by go_num, HT2, Lib.hid (below_drewN HB.out _)⟩
        · have hne : ∀ W, (binOp .neq 59 (Ev x) (Ev y)).run Tryz.prog W = .ok (.bool true) W := fun W => by rw [run_neq59, decide_eq_false hxy]; rfl
          have HR := Lib.hid (show r = false from HD.out.symm.trans (decide_eq_false fun e => hxy (by have h := HX.out; rw [e, HY.out] at h; injection h with h; exact h.symm)))
          obtain ⟨xs, xv⟩ := x
          obtain ⟨ys, yv⟩ := y
          dsimp only [Ev] at f0 f1 g0 g1 hne
          clear hxy
          go_wp2_with fail
          go_quiet (fail)
          go_wp2_with fail
          try rw [Exit.noGoto_ret]
          go_ret
          exact ⟨by rw [HR.out]; first | done | rfl, below_drewN HB.out _⟩
      · have HR := Lib.hid (show r = true from HD.out.symm.trans (decide_eq_true (by
          have h := HT.out
          rwa [List.take_of_length_le (by rw [← HL.out]; omega), List.take_of_length_le (by rw [← HM.out]; omega)] at h)))
        have hjn : ¬ ((k : Int) < (n : Int)) := by omega
        clear hkn
        go_wp2_with fail
        go_ret
        exact ⟨by rw [HR.out]; first | done | rfl, HB.out⟩
  · have HR := Lib.hid (show decide (L = K) = false from decide_eq_false fun e => hnm (by rw [hn, hm, e]))
    have hb : ((n : Int) != (m : Int)) = true := by rw [bne_iff_ne]; omega
    generalize decide (L = K) = r at *
    clear hnm hn hm h1 h2
    go_enter Tryz.func65, Tryz.ntmps65
    go_wp2_with fail
    go_ret
    exact ⟨by rw [HR.out]; first | done | rfl, Below.refl _ _⟩

theorem sl_of_owns {w : World} {lo n : Nat} {v : Value} {L : List En} (h : w.ownsRow lo 59 2 v n (encL L)) (hn : n = L.length) : ∃ o c, v = .slice (Ao o) n c ∧ dn.Sl w lo o c L := by
  rcases h.2 with ⟨rfl, h0⟩ | ⟨g, cap, cur, rfl, _⟩
  · subst h0
    exact ⟨none, 0, rfl, List.eq_nil_of_length_eq_zero hn.symm, rfl⟩
  · exact ⟨some g, cap, rfl, (ERow.of_owns h hn).2, (ERow.of_owns h hn).1⟩
theorem all_src {w : World} {D x0 lo c : Nat} {o : Option Nat} {L : List En} (h : DuX w D x0 lo o c L) (hN : L.length ≤ 900000) :
    ∃ v' w1, (Builtin.append_ #[44, 44] 44 #[.slice (some ⟨w.heap.size, 0, none⟩) 0 0, .slice (Ao o) L.length c]).run Tryz.prog (w.alloc (.cells #[] 59)) = .ok v' w1 ∧ Below w.heap.size w w1 ∧ w1.ownsRow w.heap.size 59 2 v' L.length (encL L) := by
  obtain ⟨i0, hi, hz0, hz1, hz2⟩ := info_parts info37
  have hown := (row_new w).owns (Nat.le_refl _)
  have hb := below_alloc w (.cells #[] 59)
  cases o with
  | none =>
    obtain ⟨rfl, rfl⟩ := h.row
    refine ⟨.slice (some ⟨w.heap.size, 0, none⟩) 0 0, w.alloc (.cells #[] 59), ?_, hb, hown⟩
    simp [Builtin.append_, run_underlying Tryz.underlying44, sizeOf, typeInfo, hi, Builtin.lenOf, Builtin.firstCells, storeCells]
  | some G =>
    have hr := h.row.2.2
    have hr' := hr.of_block (hb.block G hr.lt)
    obtain ⟨v', w', h1, h2, h3, _⟩ := run_append_own (P := Tryz.prog) (w := w.alloc (.cells #[] 59)) w.heap.size 44 44 59 i0 _ 2 24 Tryz.underlying44 hi hz0 hz1 hz2 rfl (by decide) _ 0 (encL []) hown ⟨G, 0, none⟩ L.length c (encL L) (encL_length L) (fun j u hu => by
      have := hr'.cells hu
      by_cases hj : j = 0
      · subst hj; simpa [Addr.add] using this
      · simpa [Addr.add, hj] using this) (encL_one L) (by unfold maxLen; omega) (by omega) hb.size
    refine ⟨v', w', h1, below_grown_far hb h3 (Nat.le_refl _), ?_⟩
    simpa [encL] using h2
def AllQ (w : World) (r : List En × Int) (e : Ending) (w' : World) : Prop := ∃ o c, e = .returned (.tuple #[.slice (Ao o) r.1.length c, .int .i64 r.2]) ∧ dn.Sl w' w.heap.size o c r.1 ∧ Below w.heap.size w w'
section
variable {w w' : World} {D lo RS room : Nat} {pl : Nat → Pd} {tag : Nat → Nat} {S : BS}
set_option maxRecDepth 100000 in
set_option maxHeartbeats 1000000 in
theorem q_all (h : DB w D lo RS pl tag S room) (hG : br.Good S room) (i : Int) : Calls Tryz.prog 63 #[Pq D, .int .i64 i] w (AllQ w (S.all i)) := by
  have HI := Lib.hid (q_dir h i false)
  unfold RetQ at HI
  by_cases h1 : S.dirE i false = 0
  · obtain ⟨I, rfl, d1, d2, hD, _⟩ := dirE_ok h1
    rw [show S.all (I : Int) = ((S.ino I).dir, 0) by unfold BS.all; rw [if_neg (by omega), at_nat]]
    rw [h1] at HI
    have hdx := (h.ino I d2).d
    have hN := hG.1.dirLen I
    obtain ⟨v1, w1, hrun, hb1, hown⟩ := all_src hdx (by omega)
    obtain ⟨o1, c1, rfl, hsl⟩ := sl_of_owns hown rfl
    have d0 := hdx.d0
    have d0' := (hdx.below (below_alloc w (.cells #[] 59))).d0
    have HRUN := Lib.hid hrun
    have HS := Lib.hid hsl
    have HB := Lib.hid hb1
    generalize (S.ino I).dir = L at *
    generalize hn : L.length = n at *
    have HN := Lib.hid hn
    clear h h1 hG hN hown hdx hrun hsl hb1 hn
    have hI0 : (0 : Int) ≤ (I : Int) := by omega
    have hI1 : (I : Int) < 201 := by omega
    go_enter Tryz.func63, Tryz.ntmps63
    go_wp2_with fail
    refine HI.out.mono ?_
    rintro e w2 ⟨rfl, rfl⟩
    go_wp2_with (at_builtin; refine Lib.wpList_append_run _ rfl (.tmp 13) (.tmp 21) 44 44 rfl _ _ rfl rfl _ _ HRUN.out ?_)
    go_wp2_with fail
    go_ret2
    exact ⟨o1, c1, by rw [show (L, (0 : Int)).1.length = n from HN.out]; rfl, HS.out, HB.out⟩
  · have hv : S.all i = ([], S.dirE i false) := by unfold BS.all; rw [if_pos h1]
    rw [hv]
    generalize S.dirE i false = x at *
    have hr : (x != 0) = true := by simpa using h1
    clear h h1 hG hv
    go_enter Tryz.func63, Tryz.ntmps63
    go_wp2_with fail
    refine HI.out.mono ?_
    rintro e w2 ⟨rfl, rfl⟩
    go_wp2_with fail
    go_ret2
    exact ⟨none, 0, rfl, ⟨rfl, rfl⟩, Below.refl _ _⟩
end
end Go.Proofs.YtlelnpckbcpkkaaGreat.cb
