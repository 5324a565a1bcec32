/- 'DeleteFunc' over claims. -/
import Derived.Test.YtlplbpilpkmoaaaMc
namespace Go.Proofs.Ytlplbpilpkmoaaa.sc
open Go.RowKit Go.Shelf
set_option linter.unusedVariables false
set_option linter.unusedSimpArgs false

def zc3 : List Value := [.int .i64 0, .bool false, .bool false]
theorem QRow.spoil {G c : Nat} {xs : List Cl} : ∀ (vs : List Value) (o : Nat) (w : World), QRow w G c xs → xs.length * 3 ≤ o → QRow (w.setCells G o vs) G c xs
  | [], _, _, h, _ => h
  | v :: r, o, w, h, ho => QRow.spoil r (o + 1) _ (by
      obtain ⟨h1, h2, f, hf, hc⟩ := h
      refine ⟨h1, h2, _, hf.set o v, fun i hi => ?_⟩
      obtain ⟨a, b, d⟩ := hc i hi
      have e1 : ¬ i * 3 = o := by omega
      have e2 : ¬ i * 3 + 1 = o := by omega
      have e3 : ¬ i * 3 + 2 = o := by omega
      simp [e1, e2, e3, a, b, d]) (by omega)
theorem grownBy_sets (G : Nat) : ∀ (vs : List Value) (o : Nat) (w : World), w.grownBy (w.setCells G o vs) (some G)
  | [], _, w => grownBy_refl w _
  | v :: r, o, w => grownBy_trans (grownBy_set w G o v) (grownBy_sets G r (o + 1) _)
theorem zero60 (w : World) : (zeroValue 80).run Try.prog w = .ok (Cv 0 false false) w := by kernel_rfl
theorem run_clear3 (w : World) (ty : TypeId) (G o n c : Nat) (hn : 0 < n) (hc : ∀ j, j < n * 3 → (w.cell? ⟨G, o + j, none⟩).isSome = true) (hf : ∀ j, w.frozen? ⟨G, j, none⟩ = false) :
    ∃ vs, (Builtin.clear_ #[78] ty #[.slice (some ⟨G, o, none⟩) n c]).run Try.prog w = .ok (.tuple #[]) (w.setCells G o vs) := by
  have hz : (Cv 0 false false).cells = #[.int .i64 0, .bool false, .bool false] := rfl
  have hmem : ∀ v ∈ (Builtin.zeroCells (Cv 0 false false).cells n).toList, v.oneCell' = true := by
    intro v hv
    rw [hz] at hv
    simp only [Builtin.zeroCells, Array.toList_map, List.mem_map] at hv
    obtain ⟨i, _, rfl⟩ := hv
    have : i % 3 = 0 ∨ i % 3 = 1 ∨ i % 3 = 2 := by omega
    rcases this with e | e | e <;> simp [e] <;> rfl
  have hlen : (Builtin.zeroCells (Cv 0 false false).cells n).toList.length = n * 3 := by rw [hz]; simp [Builtin.zeroCells]
  have hst := run_storeCells_cells (P := Try.prog) G o (Builtin.zeroCells (Cv 0 false false).cells n).toList 0 w (fun j hj => by rw [Nat.add_zero]; exact hc j (by omega)) (fun j hj => hf _) hmem
  rw [Nat.add_zero] at hst
  refine ⟨(Builtin.zeroCells (Cv 0 false false).cells n).toList, ?_⟩
  obtain ⟨m, rfl⟩ : ∃ m, n = m + 1 := ⟨n - 1, by omega⟩
  have hz2 := zero60 w
  simp only [Cv, Int.natCast_zero] at hz2 hst
  simp [Builtin.clear_, run_underlying Try.underlying78, hst, Cv]

/-- The first i of ys are what stays of the first j of xs; behind j nothing has turned. -/
structure Inv (p : Cl → Bool) (xs ys : List Cl) (i j : Nat) : Prop where
  lt : i < j
  le : j ≤ xs.length
  size : ys.length = xs.length
  front : ys.take i = (xs.take j).filter (fun c => !p c)
  back : ∀ k, j ≤ k → g ys k = g xs k
theorem take_succ_g {xs : List Cl} {j : Nat} (hj : j < xs.length) : xs.take (j + 1) = xs.take j ++ [g xs j] := by
  rw [List.take_succ_eq_append_getElem hj, g_get hj]
theorem Inv.start {p : Cl → Bool} {xs : List Cl} {i : Nat} (hi : i < xs.length) (h : p (g xs i) = true) (hb : ∀ j, j < i → p (g xs j) = false) : Inv p xs xs i (i + 1) := by
  refine ⟨by omega, by omega, rfl, ?_, fun _ _ => rfl⟩
  rw [take_succ_g hi, List.filter_append]
  have e1 : (xs.take i).filter (fun c => !p c) = xs.take i := by
    rw [List.filter_eq_self]
    intro x hx
    obtain ⟨k, hk, e⟩ := List.getElem_of_mem hx
    rw [List.length_take] at hk
    have := hb k (by omega)
    rw [g_get (by omega), show xs[k] = x by rw [← e]; simp] at this
    simp [this]
  rw [e1]
  simp [h]
theorem Inv.skip {p : Cl → Bool} {xs ys : List Cl} {i j : Nat} (h : Inv p xs ys i j) (hj : j < xs.length) (hx : p (g xs j) = true) : Inv p xs ys i (j + 1) := by
  refine ⟨by have := h.lt; omega, by omega, h.size, ?_, fun k hk => h.back k (by omega)⟩
  rw [take_succ_g hj, List.filter_append, ← h.front]
  simp [hx]
theorem Inv.keep {p : Cl → Bool} {xs ys : List Cl} {i j : Nat} (h : Inv p xs ys i j) (hj : j < xs.length) (hx : p (g xs j) = false) : Inv p xs (ys.set i (g xs j)) (i + 1) (j + 1) := by
  have hlt := h.lt
  have hi : i < ys.length := by rw [h.size]; omega
  refine ⟨by omega, by omega, by simp [h.size], ?_, fun k hk => by rw [g_set hi, if_neg (by omega)]; exact h.back k (by omega)⟩
  rw [take_succ_g hj, List.filter_append, ← h.front, take_succ_g (xs := ys.set i (g xs j)) (by simpa using hi), g_set hi, if_pos rfl]
  rw [List.take_set_of_le (Nat.le_refl _)]
  simp [hx]
theorem Inv.done {p : Cl → Bool} {xs ys : List Cl} {i : Nat} (h : Inv p xs ys i xs.length) : ys.take i = xs.filter (fun c => !p c) := by
  rw [h.front, List.take_of_length_le (by simp)]
theorem g_take {ys : List Cl} {i k : Nat} (hk : k < i) : g (ys.take i) k = g ys k := by
  simp [g, List.getD, List.getElem?_take_of_lt hk]
theorem QRow.cut {w : World} {G c i : Nat} {ys : List Cl} (h : QRow w G c ys) (hi : i ≤ ys.length) : QRow w G c (ys.take i) := by
  obtain ⟨h1, h2, f, hf, hc⟩ := h
  have hl : (ys.take i).length = i := by simp; omega
  exact ⟨by rw [hl]; omega, h2, f, hf, fun k hk => by rw [hl] at hk; rw [g_take hk]; exact hc k (by omega)⟩

/-- What 'DeleteFunc' hands back. -/
def DelE (w : World) (o : Option Nat) (c : Nat) (p : Cl → Bool) (xs : List Cl) (e : Ending) (w' : World) : Prop :=
  e = .returned (.slice (Ao o) (xs.filter (fun c => !p c)).length c) ∧ Sl w' o c (xs.filter (fun c => !p c)) ∧ w.grownBy w' o
theorem filter_all {p : Cl → Bool} {xs : List Cl} (h : ∀ j, j < xs.length → p (g xs j) = false) : xs.filter (fun c => !p c) = xs := by
  rw [List.filter_eq_self]
  intro x hx
  obtain ⟨k, hk, e⟩ := List.getElem_of_mem hx
  have := h k hk
  rw [g_get hk, e] at this
  simp [this]
theorem delE_all {w w' : World} {o : Option Nat} {c : Nat} {p : Cl → Bool} {xs : List Cl} (h : Sl w o c xs) (ha : ∀ j, j < xs.length → p (g xs j) = false) (hb : Below w.heap.size w w') : DelE w o c p xs (.returned (.slice (Ao o) xs.length c)) w' :=
  ⟨by rw [filter_all ha], by rw [filter_all ha]; exact h.below hb, grownBy_below hb _⟩
theorem QRow.some_ {w : World} {G c : Nat} {xs : List Cl} (h : QRow w G c xs) {o : Nat} (ho : o < c * 3) : (w.cell? ⟨G, o, none⟩).isSome = true := by
  obtain ⟨h1, h2, f, hf, hc⟩ := h
  rw [hf.cell ho]; rfl
theorem delE_some {w wr : World} {G c i n : Nat} {p : Cl → Bool} {xs ys : List Cl} {vs : List Value} (hV : Inv p xs ys i xs.length) (hn : ys.length = n) (hin : i < n) (hR : QRow wr G c ys) (hG : w.grownBy wr (some G)) :
    DelE w (some G) c p xs (.returned (.slice (some ⟨G, 0, none⟩) i c)) (wr.setCells G (i * 3) vs) := by
  have hl : (ys.take i).length = i := by simp; omega
  refine ⟨by rw [← hV.done, hl]; rfl, ?_, grownBy_trans hG (grownBy_sets G vs _ _)⟩
  rw [← hV.done]
  exact QRow.spoil vs (i * 3) wr (hR.cut (by omega)) (by rw [hl]; exact Nat.le_refl _)

set_option maxHeartbeats 4000000 in
theorem del_any (f B n c : Nat) (o : Option Nat) (m : Nat) (p : Cl → Bool) (xs : List Cl) (w : World) (hE : Enters Try.prog f) (hA : Asks f B m p) (hB : w.cell? ⟨B, 0, none⟩ = some (.int .i64 (m : Int))) (hBG : o ≠ some B) (hn : n = xs.length) (hN : n ≤ 1000000) (h : Sl w o c xs) :
    Calls Try.prog 37 #[.slice (Ao o) n c, .func (.func f) #[] #[.pointer (some ⟨B, 0, none⟩)]] w (DelE w o c p xs) := by
  have HI := Lib.hid (idx_any f B n c o m p xs w hE hA hB hn hN h)
  have hBl := World.block_lt_of_cell? w _ hB
  have HALL := Lib.hid (fun w' ha hb => delE_all (w' := w') (p := p) h ha hb)
  have HN := Lib.hid hn
  have HS := Lib.hid h
  have HA := Lib.hid hA
  have HB := Lib.hid hB
  have HBG := Lib.hid hBG
  rw [← hn] at HALL
  unfold Enters at hE
  clear hn h hA hB hBG
  go_enter Try.func37, Try.ntmps37
  go_wp2_with fail
  refine HI.out.mono ?_
  rintro e w1 ⟨⟨i0, hi0, hm0, hbf, rfl⟩ | ⟨hno, rfl⟩, hb⟩
  · cases o with
    | none => exact absurd HS.out.1 (by intro e; rw [e] at hi0; simp at hi0)
    | some G =>
      have HIV := Lib.hid (Inv.start hi0 hm0 hbf)
      rw [← HN.out] at hi0
      have HR1 := Lib.hid (show QRow w1 G c xs from QRow.of_block (w := w) HS.out (hb.block _ (QRow.lt (w := w) HS.out)))
      have HG1 := Lib.hid (grownBy_below hb (some G))
      have hb1 : ((i0 : Int) == -1) = false := by rw [beq_eq_false_iff_ne]; omega
      have HBK := Lib.hid (fun W (hg : w.grownBy W (some G)) => (hg.cell HB.out (fun e => HBG.out e.symm) : W.cell? ⟨B, 0, none⟩ = some (.int .i64 (m : Int))))
      clear hm0 hbf hb HALL HI
      go_wp2_with fail
      go_loopg [5, 6] (n - (i0 + 1)) (fun gk s5 s6 wr => ∃ (i j : Nat) (ys : List Cl), s5 = .int .i64 i ∧ s6 = .int .i64 j ∧ gk + j = n ∧ i < j ∧ Hid (Inv p xs ys i j) ∧ Hid (QRow wr G c ys) ∧ Hid (w.grownBy wr (some G)))
      case atStart => exact ⟨i0, i0 + 1, xs, rfl, by go_num, by omega, by omega, HIV, HR1, HG1⟩
      case round =>
        clear HIV HR1 HG1
        obtain ⟨i, j, ys, rfl, rfl, hgk, hij, HV, HR, HG⟩ := hrel
        by_cases hlt : j < n
        · have hsz : ys.length = n := HV.out.size.trans HN.out.symm
          have ha := HR.out.at_ (i := j) (by omega)
          have hfz := HR.out.frozen
          have hai := HR.out.at_ (i := i) (by omega)
          have HX := Lib.hid (HV.out.back j (Nat.le_refl _))
          rw [HX.out] at ha
          have HKEEP := Lib.hid (fun h => HV.out.keep (by rw [← HN.out]; exact hlt) h)
          have HSKIP := Lib.hid (fun h => HV.out.skip (by rw [← HN.out]; exact hlt) h)
          have HSET := Lib.hid (fun W (hr : QRow W G c ys) (y : Cl) => hr.set (i := i) (by omega) y)
          generalize g xs j = x at *
          generalize g ys i = y at *
          obtain ⟨xk, xt, xm⟩ := x
          have f0 := ha.k
          have f1 := ha.t
          have f2 := ha.m
          dsimp only at f0 f1 f2 HKEEP HSKIP
          have HWB := Lib.hid (below_alloc wr (.cells #[.int .i64 (xk : Int), .bool xt, .bool xm] 80))
          have HC := Lib.hid (HA.out xk xt xm (wr.alloc (.cells #[.int .i64 (xk : Int), .bool xt, .bool xm] 80)) ((HWB.out.cell (p := ⟨B, 0, none⟩) (Nat.lt_of_lt_of_le hBl HG.out.size)).trans (HBK.out wr HG.out)))
          clear ha hfz hai HX
          by_cases he : p ⟨xk, xt, xm⟩ = true
          · rw [he] at HC
            have HE := Lib.hid he
            clear he
            go_wp2_with fail
            refine HC.out.mono ?_
            rintro e w2 ⟨rfl, hb2⟩
            have HB2 := Lib.hid (below_step HWB.out hb2)
            clear hb2
            go_wp2_with fail
            go_roundg (gk - 1)
            case measure => omega
            case rel => exact ⟨i, j + 1, ys, rfl, by go_num, by omega, by omega, Lib.hid (HSKIP.out HE.out), Lib.hid (HR.out.of_block (HB2.out.block _ HR.out.lt)), Lib.hid (grownBy_trans HG.out (grownBy_below HB2.out _))⟩
          · have he : p ⟨xk, xt, xm⟩ = false := by simpa using he
            rw [he] at HC
            have HE := Lib.hid he
            clear he
            go_wp2_with fail
            refine HC.out.mono ?_
            rintro e w2 ⟨rfl, hb2⟩
            have HB2 := Lib.hid (below_step HWB.out hb2)
            have HR2 := Lib.hid (HR.out.of_block (HB2.out.block _ HR.out.lt))
            have hlo : wr.heap.size < (wr.alloc (.cells #[.int .i64 (xk : Int), .bool xt, .bool xm] 80)).heap.size := by simp
            have b0 := (hb2.cell (p := ⟨wr.heap.size, 0, none⟩) hlo).trans (show _ = some (.int .i64 (xk : Int)) by simp)
            have b1 := (hb2.cell (p := ⟨wr.heap.size, 1, none⟩) hlo).trans (show _ = some (.bool xt) by simp)
            have b2 := (hb2.cell (p := ⟨wr.heap.size, 2, none⟩) hlo).trans (show _ = some (.bool xm) by simp)
            have hai := HR2.out.at_ (i := i) (by omega)
            have hfz := HR2.out.frozen
            have c0 := hai.k
            have c1 := hai.t
            have c2 := hai.m
            have i1 : i < n := by omega
            clear hb2 hlo hai f0 f1 f2
            go_wp2_with fail
            go_roundg (gk - 1)
            case measure => omega
            case rel => exact ⟨i + 1, j + 1, _, by go_num, by go_num, by omega, by omega, Lib.hid (HKEEP.out HE.out), Lib.hid (HSET.out w2 HR2.out ⟨xk, xt, xm⟩), Lib.hid (grownBy_trans (grownBy_trans HG.out (grownBy_below HB2.out _)) (grownBy_set3 w2 G i ⟨xk, xt, xm⟩))⟩
        · have hjn : j = n := by omega
          have HV2 := Lib.hid (show Inv p xs ys i xs.length by rw [← HN.out, ← hjn]; exact HV.out)
          have hin : i < n := by omega
          have hsz : ys.length = n := HV.out.size.trans HN.out.symm
          have hcap : n ≤ c := by rw [← hsz]; exact HR.out.1
          have hjl : ¬ ((j : Int) < (n : Int)) := by omega
          obtain ⟨vs, hcl⟩ := run_clear3 wr 0 G (i * 3) (n - i) (c - i) (by omega) (fun k hk => HR.out.some_ (by omega)) HR.out.frozen
          have HZ := Lib.hid (delE_some (vs := vs) HV2.out hsz hin HR.out HG.out)
          clear hlt hjn hsz
          go_wp2_with fail
          go_ret
          exact HZ.out
  · have HZ := Lib.hid (HALL.out w1 (by rw [HN.out]; exact hno) hb)
    clear hno hb
    go_wp2_with fail
    go_ret
    exact HZ.out

end Go.Proofs.Ytlplbpilpkmoaaa.sc
