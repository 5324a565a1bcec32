/- The document's 'Last' by definition: it hands back what the program's does. -/
import Derived.Test.YtlaceeiodlpmdaaRef
import Derived.Test.YtlaceeiodlpmdaaLast
namespace Go.Proofs.Ytlaceeiodlpmdaa
open Go.RowKit

set_option maxHeartbeats 400000 in
theorem rlast_none (A : Option Addr) (c : Nat) (d : Bool) (w : World) : Calls Try.prog 20 #[Pv A 0 c d] w (LastNo w) := by
  go_enter Try.func20, Try.ntmps20
  go_wp2_with fail
  exact bodyPost_ret (v := .tuple #[Pv none 0 0 false, Sv [], .int .i64 16]) (by simp [results, Try.results20, go_sem]) rfl ⟨rfl, (below_alloc w _).alloc (by simp) _⟩

set_option maxHeartbeats 1000000 in
theorem rlast_dots (A : Option Addr) (n c B : Nat) (d : Bool) (ys : List Bs) (x : Bs) (w : World) (hn : n = ys.length) (hl : n ≤ 65536) (hB : B ≤ w.heap.size) (hx : Strs w B A (ys ++ [x])) (hd : dotB x = true) :
    Calls Try.prog 20 #[Pv A (n + 1) c d] w (LastNo w) := by
  obtain ⟨ad, rfl, hb, hcell, -⟩ := last_get hx
  rw [← hn] at hcell
  have hc1 : ∀ o1 o2, ((w.alloc o1).alloc o2).cell? (ad.add n) = some (Sv x) := fun o1 o2 => by
    rw [World.cell?_alloc_lt _ _ _ (by rw [addr_block]; simp; omega), World.cell?_alloc_lt _ _ _ (by rw [addr_block]; omega)]; exact hcell
  clear hcell hx hn
  by_cases h1 : x = [46]
  · subst h1
    go_enter Try.func20, Try.ntmps20
    go_wp2_with fail
    exact bodyPost_ret (v := .tuple #[Pv none 0 0 false, Sv [], .int .i64 16]) (by simp [results, Try.results20, go_sem]) rfl ⟨rfl, (below_alloc w _).alloc (by simp) _⟩
  · have h2 : x = [46, 46] := by
      unfold dotB at hd
      simp [h1] at hd
      exact hd
    subst h2
    go_enter Try.func20, Try.ntmps20
    go_wp2_with fail
    exact bodyPost_ret (v := .tuple #[Pv none 0 0 false, Sv [], .int .i64 16]) (by simp [results, Try.results20, go_sem]) rfl ⟨rfl, (below_alloc w _).alloc (by simp) _⟩

structure RL (w w2 : World) : Prop where
  c0 : w2.cell? ⟨w.heap.size + 1, 0, none⟩ = some (.slice none 0 0)
  c1 : w2.cell? ⟨w.heap.size + 1, 1, none⟩ = some (.bool false)
  f0 : w2.frozen? ⟨w.heap.size + 1, 0, none⟩ = false
  f1 : w2.frozen? ⟨w.heap.size + 1, 1, none⟩ = false
  bl : Below w.heap.size w w2
  sz : w.heap.size + 3 ≤ w2.heap.size
theorem rl_facts {w w2 : World} {v0 v1 : Value} (h : (((w.alloc (.cells #[v0, v1] 25)).alloc (.cells #[.slice none 0 0, .bool false] 25)).alloc (.cells #[] 9)).grownBy w2 (Value.slice (some ⟨w.heap.size + 1 + 1, 0, none⟩) 0 0).ownBlock) : RL w w2 := by
  have hb2 : Below (w.heap.size + 2) (((w.alloc (.cells #[v0, v1] 25)).alloc (.cells #[.slice none 0 0, .bool false] 25)).alloc (.cells #[] 9)) w2 :=
    (Below.refl _ _).grown h (by simp) (fun k hk => by simp [Value.ownBlock] at hk; omega)
  have b3 : Below w.heap.size w (((w.alloc (.cells #[v0, v1] 25)).alloc (.cells #[.slice none 0 0, .bool false] 25)).alloc (.cells #[] 9)) := ((below_alloc w _).alloc (by simp) _).alloc (by simp; omega) _
  refine ⟨?_, ?_, ?_, ?_, b3.trans (hb2.mono (by omega)), by have := hb2.size; simpa using this⟩
  · rw [hb2.cell (p := ⟨w.heap.size + 1, 0, none⟩) (by simp)]; simp [World.cell?_alloc_past]
  · rw [hb2.cell (p := ⟨w.heap.size + 1, 1, none⟩) (by simp)]; simp [World.cell?_alloc_past]
  · rw [hb2.frozen (p := ⟨w.heap.size + 1, 0, none⟩) (by simp), (below_alloc ((w.alloc _).alloc _) _).frozen (p := ⟨w.heap.size + 1, 0, none⟩) (by simp)]; simp
  · rw [hb2.frozen (p := ⟨w.heap.size + 1, 1, none⟩) (by simp), (below_alloc ((w.alloc _).alloc _) _).frozen (p := ⟨w.heap.size + 1, 1, none⟩) (by simp)]; simp

set_option maxHeartbeats 1000000 in
theorem rlast_yes (A : Option Addr) (n c B : Nat) (d : Bool) (ys : List Bs) (x : Bs) (w : World) (hn : n = ys.length) (hl : n ≤ 65536) (hc : n + 1 ≤ c) (hB : B ≤ w.heap.size) (hx : Strs w B A (ys ++ [x])) (hd : dotB x = false) :
    Calls Try.prog 20 #[Pv A (n + 1) c d] w (LastYes w ys x) := by
  obtain ⟨i0, hi, hz0, hz1, hz2⟩ := info_parts info9
  obtain ⟨ad, rfl, hb, hcell, hcs⟩ := last_get hx
  rw [← hn] at hcell
  have hk : ∀ o1 o2 p, p.block < B → ((w.alloc o1).alloc o2).cell? p = w.cell? p := fun o1 o2 p hp => by
    rw [World.cell?_alloc_lt _ _ _ (by simp; omega), World.cell?_alloc_lt _ _ _ (by omega)]
  have hc1 : ∀ o1 o2, ((w.alloc o1).alloc o2).cell? (ad.add n) = some (Sv x) := fun o1 o2 => (hk _ _ _ (by rw [addr_block]; exact hb)).trans hcell
  have HC := Lib.hid (show ∀ o1 o2 o3 (j : Nat) u, (ys.map Sv)[j]? = some u → (((w.alloc o1).alloc o2).alloc o3).cell? (ad.add j) = some u by
    intro o1 o2 o3 j u hu
    rw [List.getElem?_map, Option.map_eq_some_iff] at hu
    obtain ⟨y, hy, rfl⟩ := hu
    rw [World.cell?_alloc_lt _ _ _ (by rw [addr_block]; simp; omega)]
    exact (hk _ _ _ (by rw [addr_block]; exact hb)).trans (hcs j y hy))
  have b1 : (x == [46]) = false := by
    unfold dotB at hd
    simp at hd
    rw [beq_eq_false_iff_ne]; exact hd.1
  have b2 : (x == [46, 46]) = false := by
    unfold dotB at hd
    simp at hd
    rw [beq_eq_false_iff_ne]; exact hd.2
  have HN := Lib.hid hn
  have hlit := strs_lit ((w.alloc (.cells #[.slice (some ad) (n + 1) c, .bool d] 25)).alloc (.cells #[.slice none 0 0, .bool false] 25)) (w.heap.size + 2) (by simp)
  simp only [World.size_alloc] at hlit
  have HLIT := Lib.hid hlit
  clear hcell hx hcs hk hn hd hlit
  go_enter Try.func20, Try.ntmps20
  go_wp2_with (at_builtin; go_must (refine wpList_append_own _ rfl (.tmp 26) (.tmp 33) 23 rfl (w.heap.size + 2) 9 i0 _ 1 16 Try.underlying23 hi hz0 hz1 hz2 rfl (by decide) (.slice (some ⟨w.heap.size + 1 + 1, 0, none⟩) 0 0) 0 [] rfl HLIT.out ad n c (ys.map Sv) rfl (by rw [List.length_map, ← HN.out]; omega) (HC.out _ _ _) (by intro u hu; simp at hu; obtain ⟨_, _, rfl⟩ := hu; rfl) (by unfold maxLen; omega) (by omega) (by simp) ?_); intro v1 w2 hown1 hgrow1 _; rw [List.nil_append] at hown1; have HR := rl_facts hgrow1; have q0 := HR.c0; have q1 := HR.c1; have q2 := HR.f0; have q3 := HR.f1; have q4 := HR.sz; obtain ⟨A1, c1, rfl, hown, -⟩ := own_form hown1)
  refine bodyPost_ret (v := .tuple #[Pv A1 ys.length c1 true, Sv x, .int .i64 0]) (by simp [results, Try.results20, go_sem, q0, q1]) rfl ⟨A1, c1, rfl, ?_, ?_⟩
  · exact ((hown.set (by simp) _).set (by simp) _).base (by omega)
  · exact (HR.bl.setCell (by simp) _).setCell (by simp) _

/-- The document's 'Last', of any path. -/
theorem rlast_any (A : Option Addr) (n c B : Nat) (d : Bool) (xs : List Bs) (w : World) (hn : n = xs.length) (hl : n ≤ 65536) (hc : n ≤ c) (hB : B ≤ w.heap.size) (hx : Strs w B A xs) :
    (lastNo xs = true ∧ Calls Try.prog 20 #[Pv A n c d] w (LastNo w)) ∨ ∃ ys x, xs = ys ++ [x] ∧ dotB x = false ∧ Calls Try.prog 20 #[Pv A n c d] w (LastYes w ys x) := by
  subst hn
  rcases List.eq_nil_or_concat xs with rfl | ⟨ys, x, rfl⟩
  · exact .inl ⟨rfl, rlast_none A c d w⟩
  · rw [List.concat_eq_append] at hx hl hc ⊢
    rw [List.length_append, List.length_singleton] at hl hc ⊢
    cases hd : dotB x
    · exact .inr ⟨ys, x, rfl, hd, rlast_yes A ys.length c B d ys x w rfl (by omega) hc hB hx hd⟩
    · exact .inl ⟨by simp [lastNo, hd], rlast_dots A ys.length c B d ys x w rfl (by omega) hB hx hd⟩
end Go.Proofs.Ytlaceeiodlpmdaa
