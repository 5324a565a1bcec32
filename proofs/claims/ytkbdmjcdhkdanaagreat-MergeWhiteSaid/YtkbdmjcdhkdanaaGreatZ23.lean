/- The document's own Cut. -/
import Derived.Test.YtkbdmjcdhkdanaaGreatZ22
section
namespace Go.Proofs.YtkbdmjcdhkdanaaGreat.bl
open Go.RowKit
set_option linter.unusedVariables false
set_option linter.unusedSimpArgs false


theorem cnt_max (N : Nat) (f : Nat → Bool) : cnt N f ≤ N := by
  unfold cnt
  exact Nat.le_trans (List.length_filter_le _ _) (by simp)
/-- A mark taken away. -/
theorem RB.setTf {w : World} {lo C T g cap k : Nat} {vB : Value} {b : AB} (h : RB w lo C vB (.slice (some ⟨g, 0, none⟩) T cap) b T) (hk : k < T) :
    RStep w (w.setCell ⟨g, k, none⟩ (.bool false)) lo C (RF C vB (.slice (some ⟨g, 0, none⟩) T cap)) vB (.slice (some ⟨g, 0, none⟩) T cap) ⟨b.size, updB b.th k false, b.dat⟩ T := by
  have hst := set_only' w g k (.bool false)
  have hgC : g ≠ C := fun e => h.nT (by rw [← e]; rfl)
  have hb : (w.setCell ⟨g, k, none⟩ (.bool false)).heap[C]? = w.heap[C]? := set_block (fun e => hgC e.symm)
  refine ⟨⟨(World.cell?_of_block (a := ⟨C, 0, none⟩) hb).trans h.c0, (World.cell?_of_block (a := ⟨C, 1, none⟩) hb).trans h.c1, (World.frozen?_of_block (a := ⟨C, 0, none⟩) hb).trans h.f0, (World.frozen?_of_block (a := ⟨C, 1, none⟩) hb).trans h.f1, ?_, ?_, fun x hx => ?_, h.le, h.nB, h.nT, h.sep⟩, ?_, fun x hx => Or.inl hx⟩
  · exact own_only h.rB hst (fun x hx e => by subst e; exact h.sep x hx rfl)
  · have := own_set h.rT hk (u := .bool false) rfl
    rw [tL_set hk] at this
    exact this
  · unfold updB at hx
    by_cases e : x = k
    · simp [e] at hx
    · simp only [if_neg e] at hx; exact h.tT x hx
  · exact hst.mono fun x hx => Or.inr (Or.inr (by rw [hx]; rfl))
theorem own_row {w : World} {lo g n : Nat} {f : Nat → UInt8} (hl : lo ≤ g) (hn : n ≤ 1000000) (h : w.heap[g]? = some (.cells (rowF n f).toArray 5 (0, 0))) : w.ownsRow lo 5 1 (.slice (some ⟨g, 0, none⟩) n n) n (rowF n f) :=
  ⟨by rw [rowF_length]; omega, Or.inr ⟨g, n, (rowF n f).toArray, rfl, hl, h, Nat.le_refl _, by unfold maxLen; omega, by simp [rowF_length], by
    rw [Nat.mul_one, List.take_of_length_le (by simp [rowF_length])]⟩⟩
/-- The bytes exchanged for a new row. -/
theorem RB.newB {w w1 : World} {lo C T g n : Nat} {vB vT : Value} {b : AB} {f : Nat → UInt8} (h : RB w lo C vB vT b T) (hb : Below w.heap.size w w1) (hlo : lo ≤ w.heap.size) (hn : n ≤ 1000000) (hg : w.heap.size ≤ g)
    (hr : w1.heap[g]? = some (.cells (rowF n f).toArray 5 (0, 0))) :
    RStep w (w1.setCell ⟨C, 0, none⟩ (.slice (some ⟨g, 0, none⟩) n n)) lo C (RF C vB vT) (.slice (some ⟨g, 0, none⟩) n n) vT ⟨n, b.th, f⟩ T := by
  have hC : C < w.heap.size := World.block_lt_of_cell? w _ h.c0
  have h1 := h.below hb
  have hst := set_only' w1 C 0 (.slice (some ⟨g, 0, none⟩) n n)
  have hTl := h.rT.lt
  refine ⟨⟨World.cell?_setCell_same _ _ _ h1.c0, (World.cell?_setCell_other _ _ _ _ (by intro e; injection e with _ e; simp at e)).trans h1.c1, (World.frozen?_setCell _ _ _ _).trans h1.f0, (World.frozen?_setCell _ _ _ _).trans h1.f1, ?_, ?_, h.tT, h.le, ?_, h.nT, ?_⟩, ?_, ?_⟩
  · exact own_only (own_row (Nat.le_trans hlo hg) hn hr) hst (fun x hx e => by
      have : g = x := by simpa [Value.ownBlock] using hx
      omega)
  · exact own_only h1.rT hst (fun x hx e => by subst e; exact h.nT hx)
  · intro e
    have : g = C := by simpa [Value.ownBlock] using e
    omega
  · intro x hx e
    have hgx : g = x := by simpa [Value.ownBlock] using hx
    have := (hTl x e).2; omega
  · exact (Only.of_below hb).trans (hst.mono fun x hx => Or.inl hx)
  · rintro x (hx | hx | hx)
    · exact Or.inl (Or.inl hx)
    · have hgx : g = x := by simpa [Value.ownBlock] using hx
      exact Or.inr (by omega)
    · exact Or.inl (Or.inr (Or.inr hx))
theorem RStep.RS2 {w w1 : World} {lo C RS room used T T' : Nat} {vB vT vB' vT' : Value} {b b' : AB} (h : RB w lo C vB vT b T) (hs : StoC w RS room used) (hn : ¬ RF C vB vT RS) (k : RStep w w1 lo C (RF C vB vT) vB' vT' b' T') : RS2 w w1 lo C RS room used (RF C vB vT) vB' vT' b' T' :=
  (RS2.start h hs hn).body k
def thC (b : AB) (n k : Nat) : Nat → Bool := fun x => b.th x && !(decide (x < k ∧ n ≤ 16 * x))
theorem thC_0 (b : AB) (n : Nat) (x : Nat) : thC b n 0 x = b.th x := by unfold thC; simp
theorem thC_keep {b : AB} {n k : Nat} (h : b.th k = false ∨ ¬ n ≤ 16 * k) (x : Nat) : thC b n (k + 1) x = thC b n k x := by
  unfold thC
  by_cases e : x = k
  · subst e
    rcases h with h | h
    · rw [h]; rfl
    · have h1 : ¬ (x < x + 1 ∧ n ≤ 16 * x) := by omega
      have h2 : ¬ (x < x ∧ n ≤ 16 * x) := by omega
      rw [decide_eq_false h1, decide_eq_false h2]
  · congr 2
    apply decide_eq_decide.2
    omega
theorem thC_cut {b : AB} {n k : Nat} (h : n ≤ 16 * k) (x : Nat) : thC b n (k + 1) x = updB (thC b n k) k false x := by
  unfold updB
  by_cases e : x = k
  · subst e
    rw [if_pos rfl]
    unfold thC
    have h1 : (x < x + 1 ∧ n ≤ 16 * x) := by omega
    rw [decide_eq_true h1]; simp
  · rw [if_neg e]
    unfold thC
    congr 2
    apply decide_eq_decide.2
    omega
theorem thC_at {b : AB} {n k : Nat} : thC b n k k = b.th k := by
  unfold thC
  have : ¬ (k < k ∧ n ≤ 16 * k) := by omega
  rw [decide_eq_false this]; simp
theorem thC_end {b : AB} {n T : Nat} (hT : ∀ k, b.th k = true → k < T) (x : Nat) : thC b n T x = (cutB b n).th x := by
  unfold thC cutB
  dsimp only
  cases h : b.th x
  · rfl
  · have := hT x h
    by_cases h2 : 16 * x < n
    · have h3 : ¬ (x < T ∧ n ≤ 16 * x) := by omega
      rw [decide_eq_false h3, decide_eq_true h2]; rfl
    · have h3 : (x < T ∧ n ≤ 16 * x) := by omega
      rw [decide_eq_true h3, decide_eq_false h2]; rfl
theorem cnt_sub {N k : Nat} {th : Nat → Bool} (hk : k < N) (ht : th k = true) : cnt N (updB th k false) + 1 = cnt N th := by
  have h1 := cnt_add (N := N) (k := k) (th := updB th k false) hk (by unfold updB; simp)
  rw [← h1]
  apply cnt_congr
  intro x
  unfold updB
  by_cases e : x = k
  · simp [e, ht]
  · simp [e]
def RCutE (w : World) (lo C RS room used : Nat) (G : Nat → Prop) (b : AB) (off : Int) (e : Ending) (w' : World) : Prop :=
  e = .returned (.int .i64 (cutR off)) ∧ ∃ (vB vT : Value) (T : Nat), RS2 w w' lo C RS room (used + (cut b off).n - b.n) G vB vT (cut b off) T
theorem set_row {w : World} {g n i : Nat} {f : Nat → UInt8} {x : UInt8} (h : w.heap[g]? = some (.cells (rowF n f).toArray 5 (0, 0))) (hi : i < n) : (w.setCell ⟨g, i, none⟩ (U8 x)).heap[g]? = some (.cells (rowF n (updD f i x)).toArray 5 (0, 0)) := by
  rw [setCell_eq_setRow w g i (rowF n f).toArray 5 (0, 0) (U8 x) h, setRow_heap w g _ _ 5 _ h]
  congr 2
  rw [← rowF_set hi]
  simp

set_option maxHeartbeats 3000000 in
set_option maxRecDepth 100000 in
theorem rcut_any {w : World} {lo C RS room used T0 : Nat} {vB vT : Value} {b : AB} {off : Int} (h : RB w lo C vB vT b T0) (hok : b.Ok) (hs0 : StoC w RS room used) (hRS : ¬ RF C vB vT RS) (hu : b.n ≤ used) (hur : used ≤ 65536) (hlo : lo ≤ w.heap.size) :
    Calls Tryz.prog 121 #[Pq RS, Pq C, .int .i64 off] w (RCutE w lo C RS room used (RF C vB vT) b off) := by
  have HSAME := Lib.hid (show ∀ e v, cut b off = b → cutR off = v → e = .returned (.int .i64 v) → RCutE w lo C RS room used (RF C vB vT) b off e w from fun e v h1 h2 he =>
    ⟨by rw [h2]; exact he, vB, vT, T0, by rw [h1, Nat.add_sub_cancel]; exact RS2.start h hs0 hRS⟩)
  by_cases h0 : off < 0
  · have HP := Lib.hid (HSAME.out _ 22 (by unfold cut; rw [if_neg (by omega)]) (by unfold cutR; rw [if_pos h0]) rfl)
    clear h hok hs0 hRS hu hur hlo
    go_enter Tryz.func121, Tryz.ntmps121
    go_wp2
    go_ret
    exact HP.out
  by_cases h1 : 65536 < off
  · have HP := Lib.hid (HSAME.out _ 27 (by unfold cut; rw [if_neg (by omega)]) (by unfold cutR; rw [if_neg (by omega), if_pos h1]) rfl)
    clear h hok hs0 hRS hu hur hlo
    go_enter Tryz.func121, Tryz.ntmps121
    go_wp2
    go_ret
    exact HP.out
  obtain ⟨n, rfl⟩ : ∃ n : Nat, off = (n : Int) := ⟨off.toNat, by omega⟩
  have hn : n ≤ 65536 := by omega
  have HCUT := Lib.hid (show cut b (n : Int) = cutB b n by unfold cut; rw [if_pos (by omega), Int.toNat_natCast])
  have HCR := Lib.hid (show cutR (n : Int) = 0 by unfold cutR; rw [if_neg (by omega), if_neg (by omega)])
  have hmk := make_bytes w n (by omega)
  have hz := hok.size
  have hzi : (b.size : Int) ≤ 65536 := by omega
  have hni : (n : Int) ≤ 65536 := by omega
  obtain ⟨Ab, cb, rfl⟩ := own_slice h.rB
  obtain ⟨At, ct, rfl⟩ := own_slice h.rT
  have HTT := Lib.hid h.tT
  have c0 := h.c0
  have HB := Lib.hid h
  have HOK := Lib.hid hok
  have HS := Lib.hid hs0
  have HU := Lib.hid (show b.n ≤ used ∧ used ≤ 65536 ∧ lo ≤ w.heap.size ∧ n ≤ 65536 from ⟨hu, hur, hlo, hn⟩)
  have HN := Lib.hid hRS
  have HG0 := Lib.hid (heap_alloc_last w (.cells (rowF n (fun _ => 0)).toArray 5))
  have HBL0 := Lib.hid (below_one w (.cells (rowF n (fun _ => 0)).toArray 5))
  clear HSAME h hok hs0 hRS hu hur hlo hn hz
  go_enter Tryz.func121, Tryz.ntmps121
  go_wp2_with fail
  generalize w.alloc (.cells (rowF n (fun _ => 0)).toArray 5) = W0 at *
  clear hmk
  go_loopg [8] n (fun g s8 wr => ∃ i : Nat, g + i = n ∧ s8 = .int .i64 (i : Int) ∧ i ≤ b.size ∧ Hid (wr.heap[w.heap.size]? = some (.cells (rowF n (fun j => if j < i then b.dat j else 0)).toArray 5 (0, 0))) ∧ Hid (Below w.heap.size w wr))
  case atStart => exact ⟨0, by omega, rfl, by omega, Lib.hid (row_step HG0.out fun j _ => by simp), HBL0⟩
  case round =>
    clear HG0 HBL0
    obtain ⟨i, hg, rfl, hib, HG, HBL⟩ := hrel
    have HBw := Lib.hid (HB.out.below HBL.out)
    have d0 := HBw.out.c0
    have e0 := HBw.out.f0
    by_cases hlt : i < n ∧ i < b.size
    · obtain ⟨h2, h3⟩ := hlt
      obtain ⟨g', c', he, _, hgl, hc⟩ := own_val HBw.out.rB (rowF_get b.dat (L := b.size) (j := i) h3) h3
      injection he with he1 he2
      subst he1
      have hrc : wr.cell? ⟨w.heap.size, i, none⟩ = some (U8 (if i < i then b.dat i else 0)) := by
        rw [cell_of_row _ _ i _ 5 (0, 0) HG.out]
        have := rowF_get (L := n) (fun j => if j < i then b.dat j else 0) h2
        simpa using this
      have hrf : wr.frozen? ⟨w.heap.size, i, none⟩ = false := by
        have := HG.out
        simp [World.frozen?, this]
      have hi1 : (i : Int) < (n : Int) := by omega
      have hi2 : (i : Int) < (b.size : Int) := by omega
      have HW := Lib.hid (show ∀ W, W = wr.setCell ⟨w.heap.size, i, none⟩ (U8 (b.dat i)) → W.heap[w.heap.size]? = some (.cells (rowF n (fun j => if j < i + 1 then b.dat j else 0)).toArray 5 (0, 0)) ∧ Below w.heap.size w W from fun W hW => by
        subst hW
        refine ⟨row_step (set_row HG.out h2) fun j _ => ?_, HBL.out.setCell (by show w.heap.size ≤ w.heap.size; exact Nat.le_refl _) _⟩
        unfold updD
        by_cases e : j = i
        · subst e; rw [if_pos rfl, if_pos (by omega)]
        · rw [if_neg e]
          by_cases h4 : j < i
          · show (if j < i then b.dat j else 0) = _
            rw [if_pos h4, if_pos (by omega)]
          · show (if j < i then b.dat j else 0) = _
            rw [if_neg h4, if_neg (by omega)])
      unfold U8 at hc hrc HW
      generalize b.dat i = x at *
      go_wp2_with fail
      go_roundg (gk - 1)
      case measure => omega
      case rel => exact ⟨i + 1, by omega, by go_num, by omega, Lib.hid (HW.out _ rfl).1, Lib.hid (HW.out _ rfl).2⟩
    · have HX := Lib.hid (show RS2 w (wr.setCell ⟨C, 0, none⟩ (.slice (some ⟨w.heap.size, 0, none⟩) n n)) lo C RS room (used + cnt 4096 (thC b n 0) - b.n) (RF C (.slice Ab b.size cb) (.slice At T0 ct)) (.slice (some ⟨w.heap.size, 0, none⟩) n n) (.slice At T0 ct) ⟨n, thC b n 0, (cutB b n).dat⟩ T0 from by
        have h1 := RB.newB HB.out HBL.out HU.out.2.2.1 (by have := HU.out.2.2.2; omega) (Nat.le_refl _) HG.out
        have hf : (fun j => if j < i then b.dat j else 0) = (cutB b n).dat := by
          funext j
          unfold cutB
          dsimp only
          by_cases h4 : j < i
          · rw [if_pos h4, if_pos (by omega)]
          · rw [if_neg h4]
            by_cases h5 : j < n
            · rw [if_pos h5, HOK.out.dat j (by omega)]
            · rw [if_neg h5]
        have ht : thC b n 0 = b.th := funext fun x => thC_0 b n x
        rw [hf] at h1
        have h2 := RStep.RS2 HB.out HS.out HN.out h1
        rw [ht, show used + cnt 4096 b.th - b.n = used from Nat.add_sub_cancel ..]
        exact h2)
      have hx : ¬ ((i : Int) < (n : Int)) ∨ ((i : Int) < (n : Int) ∧ ¬ ((i : Int) < (b.size : Int))) := by omega
      clear hlt HB HG HBL HBw HS HN hib hg c0
      rcases hx with hx | ⟨hx, hx2⟩
      all_goals (
        go_wp2_with fail
        clear d0 e0 hx
        generalize wr.setCell ⟨C, 0, none⟩ (.slice (some ⟨w.heap.size, 0, none⟩) n n) = W1 at *
        go_loopg [9] T0 (fun g s9 wr => ∃ k : Nat, g + k = T0 ∧ s9 = .int .i64 (k : Int) ∧ Hid (RS2 w wr lo C RS room (used + cnt 4096 (thC b n k) - b.n) (RF C (.slice Ab b.size cb) (.slice At T0 ct)) (.slice (some ⟨w.heap.size, 0, none⟩) n n) (.slice At T0 ct) ⟨n, thC b n k, (cutB b n).dat⟩ T0))
        case atStart => exact ⟨0, by omega, rfl, HX⟩
        case round =>
          clear HX
          obtain ⟨k, hg, rfl, HM⟩ := hrel
          have d0 := HM.out.r.c0
          have d1 := HM.out.r.c1
          have hT4 : (T0 : Int) ≤ 4096 := by have := HM.out.r.le; omega
          by_cases hk : k < T0
          · have hki : (k : Int) < (T0 : Int) := by omega
            have hle : (k : Int) * 16 ≤ 65536 := by omega
            obtain ⟨g', c', he, hgb, hgl, hc⟩ := own_val HM.out.r.rT (tL_get (thC b n k) hk) hk
            injection he with he1 he2
            subst he1
            have hf := own_fro HM.out.r.rT k
            rw [thC_at] at hc
            cases hth : b.th k
            · have HK := Lib.hid (show RS2 w wr lo C RS room (used + cnt 4096 (thC b n (k + 1)) - b.n) (RF C (.slice Ab b.size cb) (.slice (some ⟨g', 0, none⟩) T0 ct)) (.slice (some ⟨w.heap.size, 0, none⟩) n n) (.slice (some ⟨g', 0, none⟩) T0 ct) ⟨n, thC b n (k + 1), (cutB b n).dat⟩ T0 from by
                rw [show thC b n (k + 1) = thC b n k from funext fun x => thC_keep (Or.inl hth) x]
                exact HM.out)
              rw [hth] at hc
              clear hth HM
              go_wp2_with fail
              go_roundg (gk - 1)
              case measure => omega
              case rel => exact ⟨k + 1, by omega, by go_num, HK⟩
            · rw [hth] at hc
              by_cases hn2 : n ≤ 16 * k
              · have hni2 : (n : Int) ≤ (k : Int) * 16 := by omega
                have hgR : g' ≠ RS := fun e => HM.out.notF (Or.inr (Or.inr (by rw [← e]; rfl)))
                have hth2 : thC b n k k = true := by rw [thC_at]; exact hth
                have hcs := cnt_sub (N := 4096) (k := k) (th := thC b n k) (by omega) hth2
                obtain ⟨U, hU⟩ : ∃ U, U = used + cnt 4096 (thC b n k) - b.n := ⟨_, rfl⟩
                have hUu := HU.out
                have hU1 : 1 ≤ U := by omega
                have s1 : wr.cell? ⟨RS, 1, none⟩ = some (.int .i64 (U : Int)) := by rw [hU]; exact HM.out.s.c1
                have f1 : wr.frozen? ⟨RS, 1, none⟩ = false := HM.out.s.f1
                have s2 : (wr.setCell ⟨g', k, none⟩ (.bool false)).cell? ⟨RS, 1, none⟩ = some (.int .i64 (U : Int)) := (World.cell?_setCell_other _ _ _ _ (by intro e; injection e with e _; exact hgR e)).trans s1
                have hUb : (U : Int) ≤ 200000 := by
                  have := cnt_max 4096 (thC b n k)
                  omega
                have HW := Lib.hid (show ∀ v : Int, v = (U : Int) - 1 → RS2 w ((wr.setCell ⟨g', k, none⟩ (.bool false)).setCell ⟨RS, 1, none⟩ (.int .i64 v)) lo C RS room (used + cnt 4096 (thC b n (k + 1)) - b.n) (RF C (.slice Ab b.size cb) (.slice (some ⟨g', 0, none⟩) T0 ct)) (.slice (some ⟨w.heap.size, 0, none⟩) n n) (.slice (some ⟨g', 0, none⟩) T0 ct) ⟨n, thC b n (k + 1), (cutB b n).dat⟩ T0 from fun v hv => by
                  have h1 := HM.out.body (HM.out.r.setTf hk)
                  rw [show thC b n (k + 1) = updB (thC b n k) k false from funext fun x => thC_cut hn2 x]
                  have h2 := h1.use (used + cnt 4096 (updB (thC b n k) k false) - b.n)
                  rw [show v = ((used + cnt 4096 (updB (thC b n k) k false) - b.n : Nat) : Int) from by omega]
                  exact h2)
                have hU1i : (1 : Int) ≤ (U : Int) := by omega
                clear hth hth2 HM hU hcs hUu hn2 hU1
                go_wp2_with fail
                go_roundg (gk - 1)
                case measure => omega
                case rel => exact ⟨k + 1, by omega, by go_num, Lib.hid (HW.out _ (by omega))⟩
              · have hni2 : ¬ ((n : Int) ≤ (k : Int) * 16) := by omega
                have HK := Lib.hid (show RS2 w wr lo C RS room (used + cnt 4096 (thC b n (k + 1)) - b.n) (RF C (.slice Ab b.size cb) (.slice (some ⟨g', 0, none⟩) T0 ct)) (.slice (some ⟨w.heap.size, 0, none⟩) n n) (.slice (some ⟨g', 0, none⟩) T0 ct) ⟨n, thC b n (k + 1), (cutB b n).dat⟩ T0 from by
                  rw [show thC b n (k + 1) = thC b n k from funext fun x => thC_keep (Or.inr hn2) x]
                  exact HM.out)
                clear hth HM hn2
                go_wp2_with fail
                go_roundg (gk - 1)
                case measure => omega
                case rel => exact ⟨k + 1, by omega, by go_num, HK⟩
          · have hk2 : ¬ ((k : Int) < (T0 : Int)) := by omega
            have HE := Lib.hid (show RCutE w lo C RS room used (RF C (.slice Ab b.size cb) (.slice At T0 ct)) b (n : Int) (.returned (.int .i64 0)) wr from by
              obtain rfl : k = T0 := by omega
              refine ⟨by rw [HCR.out], .slice (some ⟨w.heap.size, 0, none⟩) n n, .slice At k ct, k, ?_⟩
              rw [HCUT.out]
              have h1 := HM.out
              have h2 : thC b n k = (cutB b n).th := funext fun x => thC_end HTT.out x
              rw [h2] at h1
              exact h1)
            clear HM hk
            go_wp2_with fail
            go_ret
            exact HE.out)
end Go.Proofs.YtkbdmjcdhkdanaaGreat.bl
end
