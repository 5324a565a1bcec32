/- 'slices.Concat' of two slices of strings: it hands back both, one behind the other, in memory of its own. -/
import Derived.Test.YtlnlehoekchdeaaGreatZ28
import Derived.Lib.AppendZerosOnto
import Derived.Laws.AppendOwnNone
section
namespace Go.Proofs.YtlnlehoekchdeaaGreat.pa
open Go.RowKit


theorem run_append_nil {P : Program} (w : World) (base : Nat) (t ty e : TypeId) (i : TypeInfo) (size : Nat) (ht : P.underlying t = some (.slice e)) (hi : P.info? e = some i)
    (v : Value) (n : Nat) (xs : List Value) (hown : w.ownsRow base e size v n xs) (c : Nat) : (Builtin.append_ #[t, t] ty #[v, .slice none 0 c]).run P w = .ok v w := by
  rcases hown.2 with ⟨rfl, rfl⟩ | ⟨g, cap, cur, rfl, _, _, hnc, _⟩
  · simp [Builtin.append_, run_underlying ht, sizeOf, typeInfo, hi, Builtin.lenOf, Builtin.firstCells]
  · simp [Builtin.append_, run_underlying ht, sizeOf, typeInfo, hi, Builtin.lenOf, Builtin.firstCells, hnc, storeCells]

/-- An append of a slice of strings, nil or not, onto one that the call made. -/
theorem wpList_append_strs {ops : Array Oper} {rest : List Oper} {o : Oper} {a : Act} {Q : Exit → Act → World → Prop} (w : World) (hgd : o.guard = none) (s x : Operand)
    (ho : o.op = .call { callee := .builtin .append, args := #[s, x], argTypes := #[23, 23] }) (base : Nat) (v : Value) (xs : List Bs) (hs : a.eval s = v)
    (hown : w.ownsRow base 9 1 v xs.length (xs.map Sv)) (A : Option Addr) (m c B : Nat) (ys : List Bs) (hx : a.eval x = .slice A m c) (hm : m = ys.length) (hr : Strs w B A ys)
    (hlen : xs.length + m ≤ 65536) (hbase : base ≤ w.heap.size)
    (h : ∀ v' w', w'.ownsRow base 9 1 v' (xs ++ ys).length ((xs ++ ys).map Sv) → w.grownBy w' v.ownBlock → wpList Tryz.prog ops Q rest (a.put o.dst v') w') : wpList Tryz.prog ops Q (o :: rest) a w := by
  obtain ⟨i0, hi, hz0, hz1, hz2⟩ := info_parts info9
  cases A with
  | none =>
    have hy : ys = [] := by
      cases ys with
      | nil => rfl
      | cons y ys => obtain ⟨ad, e, _⟩ := hr (by simp); cases e
    subst hy
    subst hm
    refine Lib.wpList_append_run w hgd s x 23 23 ho v _ hs hx v w (run_append_nil w base 23 o.type 9 i0 1 Tryz.underlying23 hi v _ _ hown c) ?_
    exact h v w (by simpa using hown) (World.grownBy.refl w _)
  | some ad =>
    refine wpList_append_own w hgd s x 23 ho base 9 i0 _ 1 16 Tryz.underlying23 hi hz0 hz1 hz2 rfl (by decide) v xs.length (xs.map Sv) hs hown ad m c (ys.map Sv) hx (by rw [List.length_map]; omega) ?_ ?_ (by unfold maxLen; omega) (by omega) hbase ?_
    · intro j u hu
      rw [List.getElem?_map, Option.map_eq_some_iff] at hu
      obtain ⟨y, hy, rfl⟩ := hu
      obtain ⟨ad', e, _, hc⟩ := hr (by have := (List.getElem?_eq_some_iff.1 hy).1; omega)
      cases e
      exact hc j y hy
    · intro u hu
      simp at hu
      obtain ⟨_, _, rfl⟩ := hu
      rfl
    · intro v' w' h1 h2 _
      refine h v' w' ?_ h2
      rw [List.length_append, List.map_append, ← hm]
      exact h1

def GrowE (w : World) (e : Ending) (w' : World) : Prop := ∃ v, e = .returned v ∧ w'.ownsRow w.heap.size 9 1 v 0 [] ∧ Below w.heap.size w w'

set_option maxRecDepth 100000 in
set_option maxHeartbeats 400000 in
theorem grow_zero (w : World) : Calls Tryz.prog 105 #[.slice none 0 0, .int .i64 0] w (GrowE w) := by
  go_enter Tryz.func105, Tryz.ntmps105
  go_wp2
  go_ret
  exact ⟨_, rfl, World.ownsRow_nil _ _ _ _, Below.refl _ _⟩

set_option maxRecDepth 100000 in
set_option maxHeartbeats 400000 in
theorem grow_some (n : Nat) (h0 : 0 < n) (hn : n ≤ 65536) (w : World) : Calls Tryz.prog 105 #[.slice none 0 0, .int .i64 n] w (GrowE w) := by
  obtain ⟨i0, hi, hz0, hz1, hz2⟩ := info_parts info9
  have hrz : ∀ ty, (Builtin.append_ #[23, 3] ty #[.slice none 0 0, .int .i64 n]).run Tryz.prog w = .ok (.slice (some ⟨w.heap.size, 0, none⟩) n (grownCap w n 0 9))
      (w.drew.alloc (.cells (#[] ++ Builtin.zeroCells (Value.string ByteArray.empty).cells n ++ Builtin.zeroCells (Value.string ByteArray.empty).cells (grownCap w n 0 9 - n)) 9)) := fun ty => by
    have h := Lib.run_append_grow_zeros w 23 3 ty 9 i0 (.string ByteArray.empty) .i64 .i64 Tryz.underlying23 (by kernel_rfl) hi hz0 none 0 0 [] (run_firstCells_none w.drew i0.size 0 0 0) n h0 (by omega) (by omega) (by omega) (by rw [hz2]; omega)
      (by rw [Nat.zero_add]; exact growslice_fits h0 (by rw [hz2]; omega))
    rw [Nat.zero_add] at h
    exact h
  have hge : n ≤ grownCap w n 0 9 := grownCap_ge w _ _ _
  have hle : grownCap w n 0 9 ≤ maxLen := grownCap_le_maxLen w n 0 9 (by unfold maxLen; omega)
  generalize grownCap w n 0 9 = G at *
  have hL := Lib.hid hle
  unfold maxLen at hle
  have hnl : ¬ ((n : Int) < 0) := by omega
  have hnp : (0 : Int) < n := by omega
  go_enter Tryz.func105, Tryz.ntmps105
  go_wp2_with (at_builtin; refine Lib.wpList_append_run _ rfl _ _ _ _ rfl _ _ rfl rfl _ _ (hrz _) ?_)
  go_ret
  have := (World.ownsRow_made (base := w.heap.size) (e := 9) (size := 1) w (Builtin.zeroCells #[Value.string ByteArray.empty] n ++ Builtin.zeroCells #[Value.string ByteArray.empty] (G - n)) G (Nat.le_refl _) hL.out (by
    simp [size_zeroCells]; omega)).drew
  exact ⟨_, rfl, this, ((Below.refl _ _).alloc (Nat.le_refl _) _).drew⟩

set_option maxRecDepth 100000 in
theorem grow_any (n : Nat) (hn : n ≤ 65536) (w : World) : Calls Tryz.prog 105 #[.slice none 0 0, .int .i64 n] w (GrowE w) := by
  rcases Nat.eq_zero_or_pos n with rfl | h
  · exact grow_zero w
  · exact grow_some n h hn w

set_option maxRecDepth 100000 in
set_option maxHeartbeats 1000000 in
theorem concat_any (b B : Nat) (A A' : Option Addr) (n c n' c' : Nat) (xs ys : List Bs) (w : World) (hn : n = xs.length) (hn' : n' = ys.length) (hl : n + n' ≤ 65536) (hb : b < w.heap.size) (hB : B ≤ w.heap.size)
    (h0 : w.cell? ⟨b, 0, none⟩ = some (.slice A n c)) (h1 : w.cell? ⟨b, 1, none⟩ = some (.slice A' n' c')) (hx : Strs w B A xs) (hy : Strs w B A' ys) :
    Calls Tryz.prog 92 #[.slice (some ⟨b, 0, none⟩) 2 2] w (OwnE w (xs ++ ys)) := by
  have HG := fun w => grow_any (n + n') hl w
  simp only [Int.natCast_add] at HG
  have HN := Lib.hid hn
  have HN' := Lib.hid hn'
  clear hn hn'
  go_enter Tryz.func92, Tryz.ntmps92
  go_wp2_with fail
  refine wp_loop_rounds 3 ?_
  rw [rounds_succ]
  go_wp2_with fail
  rw [rounds_succ]
  go_wp2_with fail
  rw [rounds_succ]
  go_wp2_with (go_at_call 105; go_must (go_fit (HG _)); rintro e w1 ⟨v, rfl, hown, hb1⟩)
  have c0 : w1.cell? ⟨b, 0, none⟩ = some (.slice A n c) := (hb1.cell (p := ⟨b, 0, none⟩) hb).trans h0
  have c1 : w1.cell? ⟨b, 1, none⟩ = some (.slice A' n' c') := (hb1.cell (p := ⟨b, 1, none⟩) hb).trans h1
  have hx1 := hx.below (hb1.mono hB)
  have hy1 := hy.below (hb1.mono hB)
  refine wp_loop_rounds 3 ?_
  rw [rounds_succ]
  go_wp2_with (at_builtin; go_must (refine wpList_append_strs _ rfl (.tmp 31) (.tmp 32) rfl w.heap.size v [] rfl hown A n c B xs rfl HN.out hx1 (by simp; omega) hb1.size ?_); intro v2 w2 hown2 hg2)
  have hb2 : Below w.heap.size w w2 := hb1.grown hg2 hb1.size (fun k hk => (hown.lt k hk).1)
  have d1 : w2.cell? ⟨b, 1, none⟩ = some (.slice A' n' c') := (hb2.cell (p := ⟨b, 1, none⟩) hb).trans h1
  have hy2 := hy.below (hb2.mono hB)
  rw [List.nil_append] at hown2
  clear hg2
  rw [rounds_succ]
  go_wp2_with (at_builtin; go_must (refine wpList_append_strs _ rfl (.tmp 31) (.tmp 32) rfl w.heap.size v2 xs rfl hown2 A' n' c' B ys rfl HN'.out hy2 (by have := HN.out; omega) hb2.size ?_); intro v3 w3 hown3 hg3)
  have hb3 : Below w.heap.size w w3 := hb2.grown hg3 hb2.size (fun k hk => (hown2.lt k hk).1)
  clear hg3
  rw [rounds_succ]
  go_wp2_with fail
  go_ret
  exact ownE_of hown3 hb3
end Go.Proofs.YtlnlehoekchdeaaGreat.pa
end
