/- 'Has'; 'DeleteFunc' over items. -/
import Derived.Test.YtadkhnenklkbmaaFind
import Derived.Lib.SliceRun
namespace Go.Proofs.Ytadkhnenklkbmaa
open Go.RowKit
set_option linter.unusedVariables false

theorem any_of {xs : Array It} {m : Int} {i : Nat} (hi : i < xs.size) (h : (g xs i).num = m) : xs.toList.any (fun x => x.num == m) = true := by
  rw [List.any_eq_true]
  exact ⟨g xs i, by rw [g_get hi]; simp, by simpa using h⟩
theorem not_any_of {xs : Array It} {m : Int} (h : ∀ j, j < xs.size → (g xs j).num ≠ m) : xs.toList.any (fun x => x.num == m) = false := by
  rw [List.any_eq_false]
  intro x hx
  obtain ⟨k, hk, e⟩ := List.getElem_of_mem hx
  have hk' : k < xs.size := by simpa using hk
  have := h k hk'
  rw [g_get hk', show xs[k] = x by simpa using e] at this
  simpa using this
set_option maxHeartbeats 1000000 in
theorem cont_any (f B n c : Nat) (o : Option Nat) (m : Int) (xs : Array It) (w : World) (hE : Enters Try.prog f) (hA : Asks f B m) (hB : w.cell? ⟨B, 0, none⟩ = some (.int .i64 m)) (hn : n = xs.size) (hN : n ≤ 1000000) (h : Sl w o c xs) :
    Calls Try.prog 28 #[.slice (Ao o) n c, .func (.func f) #[] #[.pointer (some ⟨B, 0, none⟩)]] w (RetB w (xs.toList.any (fun x => x.num == m))) := by
  have HI := Lib.hid (idx_any f B n c o m xs w hE hA hB hn hN h)
  have HY := Lib.hid (fun i (hi : i < xs.size) (h : (g xs i).num = m) => any_of hi h)
  have HZ := Lib.hid (fun (h : ∀ j, j < xs.size → (g xs j).num ≠ m) => not_any_of h)
  have HN := Lib.hid hn
  generalize xs.toList.any (fun x => x.num == m) = r at *
  clear hE hA hB h hn
  go_enter Try.func28, Try.ntmps28
  go_wp2_with fail
  refine HI.out.mono ?_
  rintro e w2 ⟨⟨i, hi, hm, -, rfl⟩ | ⟨hno, rfl⟩, hb⟩
  · have HR := Lib.hid (HY.out i hi hm)
    rw [← HN.out] at hi
    clear hm HY HZ
    go_wp2_with fail
    go_ret
    exact ⟨by rw [HR.out]; simp, hb⟩
  · have HR := Lib.hid (HZ.out hno)
    clear hno HY HZ
    go_wp2_with fail
    go_ret
    exact ⟨by rw [HR.out]; simp, hb⟩

theorem e29 : Enters Try.prog 29 := enters_of Try.func29 (by kernel_rfl) rfl
theorem e25 : Enters Try.prog 25 := enters_of Try.func25 (by kernel_rfl) rfl
set_option maxHeartbeats 1000000 in
theorem qhas_any (Q lo c T : Nat) (o : Option Nat) (xs : Array It) (m : Int) (w : World) (hN : xs.size ≤ 1000000) (h : Qu w Q lo o c xs T) :
    Calls Try.prog 19 #[Pq Q, .int .i64 m] w (RetB w (xs.toList.any (fun x => x.num == m))) := by
  have hb := below_alloc w (.cells #[.int .i64 m] 3)
  have q0 := h.q0
  have hQ := h.lt
  have HC := Lib.hid (cont_any 29 w.heap.size xs.size c o m xs (w.alloc (.cells #[.int .i64 m] 3)) e29 (asks29 _ _) (by simp) rfl hN (h.sl.below hb))
  generalize xs.toList.any (fun x => x.num == m) = r at *
  generalize hz : xs.size = n at *
  clear h hN hz
  go_enter Try.func19, Try.ntmps19
  go_wp2_with fail
  refine HC.out.mono ?_
  rintro e w2 ⟨rfl, hb2⟩
  go_wp2_with fail
  go_ret
  exact ⟨rfl, below_step hb hb2⟩

/-! ### DeleteFunc -/
def zc3 : List Value := [.int .i64 0, .int .u64 0, .int .i64 0]
theorem QRow.spoil {G c : Nat} {xs : Array It} : ∀ (vs : List Value) (o : Nat) (w : World), QRow w G c xs → xs.size * 3 ≤ o → QRow (w.setCells G o vs) G c xs
  | [], _, _, h, _ => h
  | v :: r, o, w, h, ho => QRow.spoil r (o + 1) _ (by
      obtain ⟨h1, h2, f, hf, hc⟩ := h
      refine ⟨h1, h2, _, hf.set o v, fun i hi => ?_⟩
      obtain ⟨a, b, d⟩ := hc i hi
      have e1 : ¬ i * 3 = o := by omega
      have e2 : ¬ i * 3 + 1 = o := by omega
      have e3 : ¬ i * 3 + 2 = o := by omega
      simp [e1, e2, e3, a, b, d]) (by omega)
theorem grownBy_sets (G : Nat) : ∀ (vs : List Value) (o : Nat) (w : World), w.grownBy (w.setCells G o vs) (some G)
  | [], _, w => grownBy_refl w _
  | v :: r, o, w => grownBy_trans (grownBy_set w G o v) (grownBy_sets G r (o + 1) _)
theorem zero53 (w : World) : (zeroValue 53).run Try.prog w = .ok (Iv 0 0 0) w := by kernel_rfl
theorem run_clear3 (w : World) (ty : TypeId) (G o n c : Nat) (hn : 0 < n) (hc : ∀ j, j < n * 3 → (w.cell? ⟨G, o + j, none⟩).isSome = true) (hf : ∀ j, w.frozen? ⟨G, j, none⟩ = false) :
    ∃ vs, (Builtin.clear_ #[46] ty #[.slice (some ⟨G, o, none⟩) n c]).run Try.prog w = .ok (.tuple #[]) (w.setCells G o vs) := by
  have hz : (Iv 0 0 0).cells = #[.int .i64 0, .int .u64 0, .int .i64 0] := rfl
  have hmem : ∀ v ∈ (Builtin.zeroCells (Iv 0 0 0).cells n).toList, v.oneCell' = true := by
    intro v hv
    rw [hz] at hv
    simp only [Builtin.zeroCells, Array.toList_map, List.mem_map] at hv
    obtain ⟨i, _, rfl⟩ := hv
    have : i % 3 = 0 ∨ i % 3 = 1 ∨ i % 3 = 2 := by omega
    rcases this with e | e | e <;> simp [e] <;> rfl
  have hlen : (Builtin.zeroCells (Iv 0 0 0).cells n).toList.length = n * 3 := by rw [hz]; simp [Builtin.zeroCells]
  have hst := run_storeCells_cells (P := Try.prog) G o (Builtin.zeroCells (Iv 0 0 0).cells n).toList 0 w (fun j hj => by rw [Nat.add_zero]; exact hc j (by omega)) (fun j hj => hf _) hmem
  rw [Nat.add_zero] at hst
  refine ⟨(Builtin.zeroCells (Iv 0 0 0).cells n).toList, ?_⟩
  obtain ⟨m, rfl⟩ : ∃ m, n = m + 1 := ⟨n - 1, by omega⟩
  simp [Builtin.clear_, run_underlying Try.underlying46, hst]

def keepB (m : Int) (x : It) : Bool := !(x.num == m)
/-- The first i of ys are what stays of the first j of xs; behind j nothing has turned. -/
structure Inv (m : Int) (xs ys : Array It) (i j : Nat) : Prop where
  lt : i < j
  le : j ≤ xs.size
  size : ys.size = xs.size
  front : ys.toList.take i = (xs.toList.take j).filter (keepB m)
  back : ∀ k, j ≤ k → g ys k = g xs k
theorem take_succ_g {xs : Array It} {j : Nat} (hj : j < xs.size) : xs.toList.take (j + 1) = xs.toList.take j ++ [g xs j] := by
  rw [List.take_succ_eq_append_getElem (by simpa using hj), g_get hj]; simp
theorem Inv.start {m : Int} {xs : Array It} {i : Nat} (hi : i < xs.size) (h : (g xs i).num = m) (hb : ∀ j, j < i → (g xs j).num ≠ m) : Inv m xs xs i (i + 1) := by
  refine ⟨by omega, by omega, rfl, ?_, fun _ _ => rfl⟩
  rw [take_succ_g hi, List.filter_append]
  have e1 : (xs.toList.take i).filter (keepB m) = xs.toList.take i := by
    rw [List.filter_eq_self]
    intro x hx
    obtain ⟨k, hk, e⟩ := List.getElem_of_mem hx
    rw [List.length_take] at hk
    have hk' : k < xs.size := by have := hk; simp at this; omega
    have := hb k (by omega)
    rw [g_get hk', show xs[k] = x by rw [← e]; simp] at this
    simpa [keepB] using this
  rw [e1]
  simp [keepB, h]
theorem Inv.skip {m : Int} {xs ys : Array It} {i j : Nat} (h : Inv m xs ys i j) (hj : j < xs.size) (hx : (g xs j).num = m) : Inv m xs ys i (j + 1) := by
  refine ⟨by have := h.lt; omega, by omega, h.size, ?_, fun k hk => h.back k (by omega)⟩
  rw [take_succ_g hj, List.filter_append, ← h.front]
  simp [keepB, hx]
theorem Inv.keep {m : Int} {xs ys : Array It} {i j : Nat} (h : Inv m xs ys i j) (hj : j < xs.size) (hx : (g xs j).num ≠ m) : Inv m xs (ys.setIfInBounds i (g xs j)) (i + 1) (j + 1) := by
  have hlt := h.lt
  have hi : i < ys.size := by rw [h.size]; omega
  refine ⟨by omega, by omega, by simp [h.size], ?_, fun k hk => by rw [g_set hi, if_neg (by omega)]; exact h.back k (by omega)⟩
  rw [take_succ_g hj, List.filter_append, ← h.front, take_succ_g (xs := ys.setIfInBounds i (g xs j)) (by simpa using hi), g_set hi, if_pos rfl]
  rw [Array.toList_setIfInBounds, List.take_set_of_le (Nat.le_refl _)]
  have hk : keepB m (g xs j) = true := by simpa [keepB] using hx
  simp [hk]
theorem Inv.done {m : Int} {xs ys : Array It} {i : Nat} (h : Inv m xs ys i xs.size) : ys.toList.take i = xs.toList.filter (keepB m) := by
  rw [h.front, List.take_of_length_le (by simp)]
def cutA (ys : Array It) (i : Nat) : Array It := (ys.toList.take i).toArray
theorem size_cutA {ys : Array It} {i : Nat} (hi : i ≤ ys.size) : (cutA ys i).size = i := by simp [cutA]; omega
theorem g_cutA {ys : Array It} {i k : Nat} (hi : i ≤ ys.size) (hk : k < i) : g (cutA ys i) k = g ys k := by
  rw [g_get (by rw [size_cutA hi]; exact hk), g_get (by omega)]; simp [cutA]
theorem QRow.cut {w : World} {G c i : Nat} {ys : Array It} (h : QRow w G c ys) (hi : i ≤ ys.size) : QRow w G c (cutA ys i) := by
  obtain ⟨h1, h2, f, hf, hc⟩ := h
  exact ⟨by rw [size_cutA hi]; omega, h2, f, hf, fun k hk => by rw [size_cutA hi] at hk; rw [g_cutA hi hk]; exact hc k (by omega)⟩

/-- What 'DeleteFunc' hands back. -/
def DelE (w : World) (o : Option Nat) (c : Nat) (m : Int) (xs : Array It) (e : Ending) (w' : World) : Prop :=
  ∃ ys, ys.toList = xs.toList.filter (keepB m) ∧ e = .returned (.slice (Ao o) ys.size c) ∧ Sl w' o c ys ∧ w.grownBy w' o
theorem filter_all {m : Int} {xs : Array It} (h : ∀ j, j < xs.size → (g xs j).num ≠ m) : xs.toList = xs.toList.filter (keepB m) := by
  symm
  rw [List.filter_eq_self]
  intro x hx
  obtain ⟨k, hk, e⟩ := List.getElem_of_mem hx
  have hk' : k < xs.size := by simpa using hk
  have := h k hk'
  rw [g_get hk', show xs[k] = x by simpa using e] at this
  simpa [keepB] using this
theorem delE_all {w w' : World} {o : Option Nat} {c : Nat} {m : Int} {xs : Array It} (h : Sl w o c xs) (ha : ∀ j, j < xs.size → (g xs j).num ≠ m) (hb : Below w.heap.size w w') : DelE w o c m xs (.returned (.slice (Ao o) xs.size c)) w' :=
  ⟨xs, filter_all ha, rfl, h.below hb, grownBy_below hb _⟩

theorem QRow.some_ {w : World} {G c : Nat} {xs : Array It} (h : QRow w G c xs) {o : Nat} (ho : o < c * 3) : (w.cell? ⟨G, o, none⟩).isSome = true := by
  obtain ⟨h1, h2, f, hf, hc⟩ := h
  rw [hf.cell ho]; rfl
theorem delE_some {w wr : World} {G c i n : Nat} {m : Int} {xs ys : Array It} {vs : List Value} (hV : Inv m xs ys i xs.size) (hn : ys.size = n) (hin : i < n) (hR : QRow wr G c ys) (hG : w.grownBy wr (some G)) :
    DelE w (some G) c m xs (.returned (.slice (some ⟨G, 0, none⟩) i c)) (wr.setCells G (i * 3) vs) :=
  ⟨cutA ys i, by rw [← hV.done]; simp [cutA], by rw [size_cutA (by omega)]; rfl, QRow.spoil vs (i * 3) wr (hR.cut (by omega)) (by rw [size_cutA (by omega)]; exact Nat.le_refl _), grownBy_trans hG (grownBy_sets G vs _ _)⟩

set_option maxHeartbeats 4000000 in
theorem del_any (f B n c : Nat) (o : Option Nat) (m : Int) (xs : Array It) (w : World) (hE : Enters Try.prog f) (hA : Asks f B m) (hB : w.cell? ⟨B, 0, none⟩ = some (.int .i64 m)) (hBG : o ≠ some B) (hn : n = xs.size) (hN : n ≤ 1000000) (h : Sl w o c xs) :
    Calls Try.prog 24 #[.slice (Ao o) n c, .func (.func f) #[] #[.pointer (some ⟨B, 0, none⟩)]] w (DelE w o c m xs) := by
  have HI := Lib.hid (idx_any f B n c o m xs w hE hA hB hn hN h)
  have hBl := World.block_lt_of_cell? w _ hB
  have HALL := Lib.hid (fun w' ha hb => delE_all (w' := w') (m := m) h ha hb)
  have HN := Lib.hid hn
  have HS := Lib.hid h
  have HA := Lib.hid hA
  have HB := Lib.hid hB
  have HBG := Lib.hid hBG
  rw [← hn] at HALL
  unfold Enters at hE
  clear hn h hA hB hBG
  go_enter Try.func24, Try.ntmps24
  go_wp2_with fail
  refine HI.out.mono ?_
  rintro e w1 ⟨⟨i0, hi0, hm0, hbf, rfl⟩ | ⟨hno, rfl⟩, hb⟩
  · cases o with
    | none => exact absurd HS.out.1 (by omega)
    | some G =>
      have HIV := Lib.hid (Inv.start hi0 hm0 hbf)
      rw [← HN.out] at hi0
      have HR1 := Lib.hid (show QRow w1 G c xs from QRow.of_block (w := w) HS.out (hb.block _ (QRow.lt (w := w) HS.out)))
      have HG1 := Lib.hid (grownBy_below hb (some G))
      have hb1 : ((i0 : Int) == -1) = false := by rw [beq_eq_false_iff_ne]; omega
      have HBK := Lib.hid (fun W (hg : w.grownBy W (some G)) => (hg.cell HB.out (fun e => HBG.out e.symm) : W.cell? ⟨B, 0, none⟩ = some (.int .i64 m)))
      clear hm0 hbf hb HALL HI
      go_wp2_with fail
      go_loopg [5, 6] (n - (i0 + 1)) (fun gk s5 s6 wr => ∃ (i j : Nat) (ys : Array It), s5 = .int .i64 i ∧ s6 = .int .i64 j ∧ gk + j = n ∧ i < j ∧ Hid (Inv m xs ys i j) ∧ Hid (QRow wr G c ys) ∧ Hid (w.grownBy wr (some G)))
      case atStart => exact ⟨i0, i0 + 1, xs, rfl, by go_num, by omega, by omega, HIV, HR1, HG1⟩
      case round =>
        clear HIV HR1 HG1
        obtain ⟨i, j, ys, rfl, rfl, hgk, hij, HV, HR, HG⟩ := hrel
        by_cases hlt : j < n
        · have hsz : ys.size = n := HV.out.size.trans HN.out.symm
          have ha := HR.out.at_ (i := j) (by omega)
          have hfz := HR.out.frozen
          have hai := HR.out.at_ (i := i) (by omega)
          have HX := Lib.hid (HV.out.back j (Nat.le_refl _))
          rw [HX.out] at ha
          have HKEEP := Lib.hid (fun h => HV.out.keep (by rw [← HN.out]; exact hlt) h)
          have HSKIP := Lib.hid (fun h => HV.out.skip (by rw [← HN.out]; exact hlt) h)
          have HSET := Lib.hid (fun W (hr : QRow W G c ys) (y : It) => hr.set (i := i) (by omega) y)
          generalize g xs j = x at *
          generalize g ys i = y at *
          obtain ⟨xk, xt, xm⟩ := x
          have f0 := ha.k
          have f1 := ha.t
          have f2 := ha.m
          dsimp only at f0 f1 f2 HKEEP HSKIP
          have HWB := Lib.hid (below_alloc wr (.cells #[.int .i64 xk, .int .u64 xt, .int .i64 xm] 53))
          have HC := Lib.hid (HA.out xk xt xm (wr.alloc (.cells #[.int .i64 xk, .int .u64 xt, .int .i64 xm] 53)) ((HWB.out.cell (p := ⟨B, 0, none⟩) (Nat.lt_of_lt_of_le hBl HG.out.size)).trans (HBK.out wr HG.out)))
          clear ha hfz hai HX
          by_cases he : xm = m
          · have hbe : (xm == m) = true := by simpa using he
            rw [hbe] at HC
            have HE := Lib.hid he
            clear he hbe
            go_wp2_with fail
            refine HC.out.mono ?_
            rintro e w2 ⟨rfl, hb2⟩
            have HB2 := Lib.hid (below_step HWB.out hb2)
            clear hb2
            go_wp2_with fail
            go_roundg (gk - 1)
            case measure => omega
            case rel => exact ⟨i, j + 1, ys, rfl, by go_num, by omega, by omega, Lib.hid (HSKIP.out HE.out), Lib.hid (HR.out.of_block (HB2.out.block _ HR.out.lt)), Lib.hid (grownBy_trans HG.out (grownBy_below HB2.out _))⟩
          · have hbe : (xm == m) = false := by simpa using he
            rw [hbe] at HC
            have HE := Lib.hid he
            clear he hbe
            go_wp2_with fail
            refine HC.out.mono ?_
            rintro e w2 ⟨rfl, hb2⟩
            have HB2 := Lib.hid (below_step HWB.out hb2)
            have HR2 := Lib.hid (HR.out.of_block (HB2.out.block _ HR.out.lt))
            have hlo : wr.heap.size < (wr.alloc (.cells #[.int .i64 xk, .int .u64 xt, .int .i64 xm] 53)).heap.size := by simp
            have b0 := (hb2.cell (p := ⟨wr.heap.size, 0, none⟩) hlo).trans (show _ = some (.int .i64 xk) by simp)
            have b1 := (hb2.cell (p := ⟨wr.heap.size, 1, none⟩) hlo).trans (show _ = some (.int .u64 xt) by simp)
            have b2 := (hb2.cell (p := ⟨wr.heap.size, 2, none⟩) hlo).trans (show _ = some (.int .i64 xm) by simp)
            have hai := HR2.out.at_ (i := i) (by omega)
            have hfz := HR2.out.frozen
            have c0 := hai.k
            have c1 := hai.t
            have c2 := hai.m
            have i1 : i < n := by omega
            clear hb2 hlo hai f0 f1 f2
            go_wp2_with fail
            go_roundg (gk - 1)
            case measure => omega
            case rel => exact ⟨i + 1, j + 1, _, by go_num, by go_num, by omega, by omega, Lib.hid (HKEEP.out HE.out), Lib.hid (HSET.out w2 HR2.out ⟨xk, xt, xm⟩), Lib.hid (grownBy_trans (grownBy_trans HG.out (grownBy_below HB2.out _)) (grownBy_set3 w2 G i ⟨xk, xt, xm⟩))⟩
        · have hjn : j = n := by omega
          have HV2 := Lib.hid (show Inv m xs ys i xs.size by rw [← HN.out, ← hjn]; exact HV.out)
          have hin : i < n := by omega
          have hsz : ys.size = n := HV.out.size.trans HN.out.symm
          have hcap : n ≤ c := by rw [← hsz]; exact HR.out.1
          have hjl : ¬ ((j : Int) < (n : Int)) := by omega
          obtain ⟨vs, hcl⟩ := run_clear3 wr 0 G (i * 3) (n - i) (c - i) (by omega) (fun k hk => HR.out.some_ (by omega)) HR.out.frozen
          have HZ := Lib.hid (delE_some (vs := vs) HV2.out hsz hin HR.out HG.out)
          clear hlt hjn hsz
          go_wp2_with fail
          go_ret
          exact HZ.out
  · have HZ := Lib.hid (HALL.out w1 (by rw [HN.out]; exact hno) hb)
    clear hno hb
    go_wp2_with fail
    go_ret
    exact HZ.out
end Go.Proofs.Ytadkhnenklkbmaa
