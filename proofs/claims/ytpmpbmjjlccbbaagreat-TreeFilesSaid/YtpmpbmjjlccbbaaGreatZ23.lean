/- Part 23 of what is known of the program's functions and of the document's words: contracts, and the mathematics beneath them. -/
import Derived.Test.YtpmpbmjjlccbbaaGreatProg
import Derived.Test.YtpmpbmjjlccbbaaGreatZ22
import Derived.Lib.AppendZerosOnto
import Derived.Laws.AppendOwnNone
import Derived.RegionTactic
import Derived.ChangeAlike
set_option linter.unusedVariables false
set_option linter.unusedSimpArgs false
set_option maxRecDepth 100000
set_option maxHeartbeats 8000000
namespace Go.Proofs.YtpmpbmjjlccbbaaGreat.pa
open Go.RowKit
theorem run_append_nil {P : Program} (w : World) (base : Nat) (t ty e : TypeId) (i : TypeInfo) (size : Nat) (ht : P.underlying t = some (.slice e)) (hi : P.info? e = some i)
  (v : Value) (n : Nat) (xs : List Value) (hown : w.ownsRow base e size v n xs) (c : Nat) : (Builtin.append_ #[t, t] ty #[v, .slice none 0 c]).run P w = .ok v w := by
 rcases hown.2 with ⟨rfl, rfl⟩ | ⟨g, cap, cur, rfl, _, _, hnc, _⟩
 ·simp [Builtin.append_, run_underlying ht, sizeOf, typeInfo, hi, Builtin.lenOf, Builtin.firstCells]
 ·simp [Builtin.append_, run_underlying ht, sizeOf, typeInfo, hi, Builtin.lenOf, Builtin.firstCells, hnc, storeCells]
theorem wpList_append_strs {ops : Array Oper} {rest : List Oper} {o : Oper} {a : Act} {Q : Exit → Act → World → Prop} (w : World) (hgd : o.guard = none) (s x : Operand)
  (ho : o.op = .call { callee := .builtin .append, args := #[s, x], argTypes := #[48, 48] }) (base : Nat) (v : Value) (xs : List Bs) (hs : a.eval s = v)
  (hown : w.ownsRow base 9 1 v xs.length (xs.map Sv)) (A : Option Addr) (m c B : Nat) (ys : List Bs) (hx : a.eval x = .slice A m c) (hm : m = ys.length) (hr : Strs w B A ys)
  (hlen : xs.length + m ≤ 65536) (hbase : base ≤ w.heap.size)
  (h : ∀ v' w', w'.ownsRow base 9 1 v' (xs ++ ys).length ((xs ++ ys).map Sv) → w.grownBy w' v.ownBlock → wpList Tryz.prog ops Q rest (a.put o.dst v') w') : wpList Tryz.prog ops Q (o :: rest) a w := by
 obtain ⟨i0, hi, hz0, hz1, hz2⟩ := info_parts info9
 cases A with
 | none =>
  have hy : ys = [] := by
   cases ys with
   | nil => rfl
   | cons y ys => obtain ⟨ad, e, _⟩ := hr (by simp); cases e
  subst hy
  subst hm
  refine Lib.wpList_append_run w hgd s x 48 48 ho v _ hs hx v w (run_append_nil w base 48 o.type 9 i0 1 Tryz.underlying48 hi v _ _ hown c) ?_
  exact h v w (by simpa using hown) (World.grownBy.refl w _)
 | some ad =>
  refine wpList_append_own w hgd s x 48 ho base 9 i0 _ 1 16 Tryz.underlying48 hi hz0 hz1 hz2 rfl (by decide) v xs.length (xs.map Sv) hs hown ad m c (ys.map Sv) hx (by rw [List.length_map]; omega) ?_ ?_ (by unfold maxLen; omega) (by omega) hbase ?_
  ·intro j u hu
   rw [List.getElem?_map, Option.map_eq_some_iff] at hu
   obtain ⟨y, hy, rfl⟩ := hu
   obtain ⟨ad', e, _, hc⟩ := hr (by have := (List.getElem?_eq_some_iff.1 hy).1; omega)
   cases e
   exact hc j y hy
  ·intro u hu
   simp at hu
   obtain ⟨_, _, rfl⟩ := hu
   rfl
  ·intro v' w' h1 h2 _
   refine h v' w' ?_ h2
   rw [List.length_append, List.map_append, ← hm]
   exact h1
def GrowE (w : World) (e : Ending) (w' : World) : Prop := ∃ v, e = .returned v ∧ w'.ownsRow w.heap.size 9 1 v 0 [] ∧ Below w.heap.size w w'
theorem grow_zero (w : World) : Calls Tryz.prog 225 #[.slice none 0 0, .int .i64 0] w (GrowE w) := by
 go_enter Tryz.func225, Tryz.ntmps225
 go_wp2
 go_ret
 exact ⟨_, rfl, World.ownsRow_nil _ _ _ _, Below.refl _ _⟩
theorem grow_some (n : Nat) (h0 : 0 < n) (hn : n ≤ 65536) (w : World) : Calls Tryz.prog 225 #[.slice none 0 0, .int .i64 n] w (GrowE w) := by
 obtain ⟨i0, hi, hz0, hz1, hz2⟩ := info_parts info9
 have hrz : ∀ ty, (Builtin.append_ #[48, 3] ty #[.slice none 0 0, .int .i64 n]).run Tryz.prog w = .ok (.slice (some ⟨w.heap.size, 0, none⟩) n (grownCap w n 0 9))
   (w.drew.alloc (.cells (#[] ++ Builtin.zeroCells (Value.string ByteArray.empty).cells n ++ Builtin.zeroCells (Value.string ByteArray.empty).cells (grownCap w n 0 9 - n)) 9)) := fun ty => by
  have h := Lib.run_append_grow_zeros w 48 3 ty 9 i0 (.string ByteArray.empty) .i64 .i64 Tryz.underlying48 (by kernel_rfl) hi hz0 none 0 0 [] (run_firstCells_none w.drew i0.size 0 0 0) n h0 (by omega) (by omega) (by omega) (by rw [hz2]; omega)
   (by rw [Nat.zero_add]; exact growslice_fits h0 (by rw [hz2]; omega))
  rw [Nat.zero_add] at h
  exact h
 have hge : n ≤ grownCap w n 0 9 := grownCap_ge w _ _ _
 have hle : grownCap w n 0 9 ≤ maxLen := grownCap_le_maxLen w n 0 9 (by unfold maxLen; omega)
 generalize grownCap w n 0 9 = G at *
 have hL := Lib.hid hle
 unfold maxLen at hle
 have hnl : ¬ ((n : Int) < 0) := by omega
 have hnp : (0 : Int) < n := by omega
 go_enter Tryz.func225, Tryz.ntmps225
 go_wp2_with (at_builtin; refine Lib.wpList_append_run _ rfl _ _ _ _ rfl _ _ rfl rfl _ _ (hrz _) ?_)
 go_ret
 have := (World.ownsRow_made (base := w.heap.size) (e := 9) (size := 1) w (Builtin.zeroCells #[Value.string ByteArray.empty] n ++ Builtin.zeroCells #[Value.string ByteArray.empty] (G - n)) G (Nat.le_refl _) hL.out (by
  simp [size_zeroCells]; omega)).drew
 exact ⟨_, rfl, this, ((Below.refl _ _).alloc (Nat.le_refl _) _).drew⟩
theorem grow_any (n : Nat) (hn : n ≤ 65536) (w : World) : Calls Tryz.prog 225 #[.slice none 0 0, .int .i64 n] w (GrowE w) := by
 rcases Nat.eq_zero_or_pos n with rfl | h
 ·exact grow_zero w
 ·exact grow_some n h hn w
theorem concat_any (b B : Nat) (A A' : Option Addr) (n c n' c' : Nat) (xs ys : List Bs) (w : World) (hn : n = xs.length) (hn' : n' = ys.length) (hl : n + n' ≤ 65536) (hb : b < w.heap.size) (hB : B ≤ w.heap.size)
  (h0 : w.cell? ⟨b, 0, none⟩ = some (.slice A n c)) (h1 : w.cell? ⟨b, 1, none⟩ = some (.slice A' n' c')) (hx : Strs w B A xs) (hy : Strs w B A' ys) :
  Calls Tryz.prog 221 #[.slice (some ⟨b, 0, none⟩) 2 2] w (OwnE w (xs ++ ys)) := by
 have HG := fun w => grow_any (n + n') hl w
 simp only [Int.natCast_add] at HG
 have HN := Lib.hid hn
 have HN' := Lib.hid hn'
 clear hn hn'
 go_enter Tryz.func221, Tryz.ntmps221
 go_wp2_with fail
 refine wp_loop_rounds 3 ?_
 rw [rounds_succ]
 go_wp2_with fail
 rw [rounds_succ]
 go_wp2_with fail
 rw [rounds_succ]
 go_wp2_with (go_at_call 225; go_must (go_fit (HG _)); rintro e w1 ⟨v, rfl, hown, hb1⟩)
 have c0 : w1.cell? ⟨b, 0, none⟩ = some (.slice A n c) := (hb1.cell (p := ⟨b, 0, none⟩) hb).trans h0
 have c1 : w1.cell? ⟨b, 1, none⟩ = some (.slice A' n' c') := (hb1.cell (p := ⟨b, 1, none⟩) hb).trans h1
 have hx1 := hx.below (hb1.mono hB)
 have hy1 := hy.below (hb1.mono hB)
 refine wp_loop_rounds 3 ?_
 rw [rounds_succ]
 go_wp2_with (at_builtin; go_must (refine wpList_append_strs _ rfl (.tmp 31) (.tmp 32) rfl w.heap.size v [] rfl hown A n c B xs rfl HN.out hx1 (by simp; omega) hb1.size ?_); intro v2 w2 hown2 hg2)
 have hb2 : Below w.heap.size w w2 := hb1.grown hg2 hb1.size (fun k hk => (hown.lt k hk).1)
 have d1 : w2.cell? ⟨b, 1, none⟩ = some (.slice A' n' c') := (hb2.cell (p := ⟨b, 1, none⟩) hb).trans h1
 have hy2 := hy.below (hb2.mono hB)
 rw [List.nil_append] at hown2
 clear hg2
 rw [rounds_succ]
 go_wp2_with (at_builtin; go_must (refine wpList_append_strs _ rfl (.tmp 31) (.tmp 32) rfl w.heap.size v2 xs rfl hown2 A' n' c' B ys rfl HN'.out hy2 (by have := HN.out; omega) hb2.size ?_); intro v3 w3 hown3 hg3)
 have hb3 : Below w.heap.size w w3 := hb2.grown hg3 hb2.size (fun k hk => (hown2.lt k hk).1)
 clear hg3
 rw [rounds_succ]
 go_wp2_with fail
 go_ret
 exact ownE_of hown3 hb3
abbrev Pv (A : Option Addr) (n c : Nat) (d : Bool) : Value := .agg #[.slice A n c, .bool d]
def LastNo (w : World) (e : Ending) (w' : World) : Prop := e = .returned (.tuple #[Pv none 0 0 false, Sv [], .int .i64 16]) ∧ Below w.heap.size w w'
def LastYes (w : World) (ys : List Bs) (x : Bs) (e : Ending) (w' : World) : Prop :=
 ∃ A c, e = .returned (.tuple #[Pv A ys.length c true, Sv x, .int .i64 0]) ∧ Own w' w.heap.size A c ys ∧ Below w.heap.size w w'
theorem last_none (A : Option Addr) (c : Nat) (d : Bool) (w : World) : Calls Tryz.prog 170 #[Pv A 0 c d] w (LastNo w) := by
 go_enter Tryz.func170, Tryz.ntmps170
 go_wp2
 exact bodyPost_ret (v := .tuple #[Pv none 0 0 false, Sv [], .int .i64 16]) (by simp [results, Tryz.results170, go_sem]) rfl ⟨rfl, ((Below.refl _ _).alloc (Nat.le_refl _) _).alloc (by simp) _⟩
theorem last_get {w : World} {B : Nat} {A : Option Addr} {ys : List Bs} {x : Bs} (h : Strs w B A (ys ++ [x])) :
  ∃ ad, A = some ad ∧ ad.block < B ∧ w.cell? (ad.add ys.length) = some (Sv x) ∧ ∀ (j : Nat) y, ys[j]? = some y → w.cell? (ad.add j) = some (Sv y) := by
 obtain ⟨ad, rfl, hb, hc⟩ := h (by simp)
 refine ⟨ad, rfl, hb, hc _ _ (by simp), fun j y hy => hc j y ?_⟩
 rw [List.getElem?_append_left (List.getElem?_eq_some_iff.1 hy).1]
 exact hy
theorem last_dots (A : Option Addr) (c B : Nat) (d : Bool) (ys : List Bs) (x : Bs) (w : World) (hl : ys.length ≤ 65536) (hB : B ≤ w.heap.size) (hx : Strs w B A (ys ++ [x])) (hd : dotB x = true) :
  Calls Tryz.prog 170 #[Pv A (ys.length + 1) c d] w (LastNo w) := by
 obtain ⟨ad, rfl, hb, hcell, -⟩ := last_get hx
 have hc1 : ∀ o1 o2, ((w.alloc o1).alloc o2).cell? (ad.add ys.length) = some (Sv x) := fun o1 o2 => by
  rw [World.cell?_alloc_lt _ _ _ (by rw [addr_block]; simp; omega), World.cell?_alloc_lt _ _ _ (by rw [addr_block]; omega)]; exact hcell
 clear hcell hx
 generalize ys.length = n at *
 go_enter Tryz.func170, Tryz.ntmps170
 go_wp2_with (go_at_call 198; refine (dots_any _ _).mono ?_; rintro e w' ⟨rfl, rfl⟩)
 exact bodyPost_ret (v := .tuple #[Pv none 0 0 false, Sv [], .int .i64 16]) (by simp [results, Tryz.results170, go_sem]) rfl ⟨rfl, ((Below.refl _ _).alloc (Nat.le_refl _) _).alloc (by simp) _⟩
theorem last_yes (A : Option Addr) (c B : Nat) (d : Bool) (ys : List Bs) (x : Bs) (w : World) (hl : ys.length ≤ 65536) (hc : ys.length + 1 ≤ c) (hB : B ≤ w.heap.size) (hx : Strs w B A (ys ++ [x])) (hd : dotB x = false) :
  Calls Tryz.prog 170 #[Pv A (ys.length + 1) c d] w (LastYes w ys x) := by
 obtain ⟨i0, hi, hz0, hz1, hz2⟩ := info_parts info9
 obtain ⟨ad, rfl, hb, hcell, hcs⟩ := last_get hx
 have hk : ∀ o1 o2 p, p.block < B → ((w.alloc o1).alloc o2).cell? p = w.cell? p := fun o1 o2 p hp => by
  rw [World.cell?_alloc_lt _ _ _ (by simp; omega), World.cell?_alloc_lt _ _ _ (by omega)]
 have hc1 : ∀ o1 o2, ((w.alloc o1).alloc o2).cell? (ad.add ys.length) = some (Sv x) := fun o1 o2 => (hk _ _ _ (by rw [addr_block]; exact hb)).trans hcell
 have HC := Lib.hid (show ∀ o1 o2 (j : Nat) u, (ys.map Sv)[j]? = some u → ((w.alloc o1).alloc o2).cell? (ad.add j) = some u by
  intro o1 o2 j u hu
  rw [List.getElem?_map, Option.map_eq_some_iff] at hu
  obtain ⟨y, hy, rfl⟩ := hu
  exact (hk _ _ _ (by rw [addr_block]; exact hb)).trans (hcs j y hy))
 clear hcell hx hcs hk
 obtain ⟨n, hn⟩ : ∃ n, n = ys.length := ⟨_, rfl⟩
 have HN := Lib.hid hn
 rw [← hn] at hc1 hl hc ⊢
 clear hn
 go_enter Tryz.func170, Tryz.ntmps170
 go_wp2_with (first
  | (go_at_call 198; refine (dots_any _ _).mono ?_; rintro e w' ⟨rfl, rfl⟩)
  | (at_builtin; go_must (refine wpList_append_own _ rfl _ (.tmp 25) 48 rfl (w.heap.size + 2) 9 i0 _ 1 16 Tryz.underlying48 hi hz0 hz1 hz2 rfl (by decide) (.slice none 0 0) 0 [] rfl (World.ownsRow_nil _ _ _ _) ad n c (ys.map Sv) rfl (by rw [List.length_map, ← HN.out]; omega) (HC.out _ _) (by intro u hu; simp at hu; obtain ⟨_, _, rfl⟩ := hu; rfl) (by unfold maxLen; omega) (by omega) (by simp) ?_); intro v1 w2 hown1 hgrow1 _))
 have hb2 : Below (w.heap.size + 2) ((w.alloc (.cells #[.slice (some ad) (n + 1) c, .bool d] 149)).alloc (.cells #[.slice none 0 0, .bool false] 149)) w2 :=
  (Below.refl _ _).grown hgrow1 (by simp) (fun k hk => by simp [Value.ownBlock] at hk)
 have hb1 : Below w.heap.size w w2 := (((Below.refl _ _).alloc (Nat.le_refl _) _).alloc (by simp) _).trans (hb2.mono (by omega))
 have sz : w.heap.size + 2 ≤ w2.heap.size := by have := hb2.size; simpa using this
 have q0 : w2.cell? ⟨w.heap.size, 0, none⟩ = some (.slice (some ad) (n + 1) c) := by rw [hb2.cell (p := ⟨w.heap.size, 0, none⟩) (by simp)]; simp [World.cell?_alloc_past]
 have r0 : w2.cell? ⟨w.heap.size + 1, 0, none⟩ = some (.slice none 0 0) := by rw [hb2.cell (p := ⟨w.heap.size + 1, 0, none⟩) (by simp)]; simp
 have r1 : w2.cell? ⟨w.heap.size + 1, 1, none⟩ = some (.bool false) := by rw [hb2.cell (p := ⟨w.heap.size + 1, 1, none⟩) (by simp)]; simp
 have f0 : w2.frozen? ⟨w.heap.size + 1, 0, none⟩ = false := by rw [hb2.frozen (p := ⟨w.heap.size + 1, 0, none⟩) (by simp)]; simp
 have f1 : w2.frozen? ⟨w.heap.size + 1, 1, none⟩ = false := by rw [hb2.frozen (p := ⟨w.heap.size + 1, 1, none⟩) (by simp)]; simp
 have hc2 : w2.cell? (ad.add n) = some (Sv x) := by rw [hb2.cell (p := ad.add n) (by rw [addr_block]; omega)]; exact hc1 _ _
 rw [List.nil_append] at hown1
 obtain ⟨A1, c1, rfl, hown, -⟩ := own_form hown1
 clear hc1 hb2 hgrow1 hown1
 have hc3 : ∀ u1 u2, ((w2.setCell ⟨w.heap.size + 1, 0, none⟩ u1).setCell ⟨w.heap.size + 1, 1, none⟩ u2).cell? (ad.add n) = some (Sv x) := fun u1 u2 => by
  have hne : ∀ i, ad.add n ≠ ⟨w.heap.size + 1, i, none⟩ := fun i e => by
   have := congrArg Addr.block e
   rw [addr_block] at this
   simp at this
   omega
  rw [World.cell?_setCell_other _ _ _ _ (fun e => hne _ e.symm), World.cell?_setCell_other _ _ _ _ (fun e => hne _ e.symm)]
  exact hc2
 go_region
 all_goals go_wp2
 refine bodyPost_ret (v := .tuple #[Pv A1 ys.length c1 true, Sv x, .int .i64 0]) (by simp [results, Tryz.results170, go_sem, r0, r1]) rfl ⟨A1, c1, rfl, ?_, ?_⟩
 ·exact ((hown.set (by simp) _).set (by simp) _).base (by omega)
 ·exact ((hb1.setCell (by simp) _).setCell (by simp) _).drew
def lastNo (xs : List Bs) : Bool := match xs.getLast? with | some x => dotB x | none => true
theorem last_any (A : Option Addr) (n c B : Nat) (d : Bool) (xs : List Bs) (w : World) (hn : n = xs.length) (hl : n ≤ 65536) (hc : n ≤ c) (hB : B ≤ w.heap.size) (hx : Strs w B A xs) :
  (lastNo xs = true ∧ Calls Tryz.prog 170 #[Pv A n c d] w (LastNo w)) ∨ ∃ ys x, xs = ys ++ [x] ∧ dotB x = false ∧ Calls Tryz.prog 170 #[Pv A n c d] w (LastYes w ys x) := by
 subst hn
 rcases List.eq_nil_or_concat xs with rfl | ⟨ys, x, rfl⟩
 ·exact .inl ⟨rfl, last_none A c d w⟩
 ·rw [List.concat_eq_append] at hx hl hc ⊢
  rw [List.length_append, List.length_singleton] at hl hc ⊢
  cases hd : dotB x
  ·exact .inr ⟨ys, x, rfl, hd, last_yes A c B d ys x w (by omega) hc hB hx hd⟩
  ·exact .inl ⟨by simp [lastNo, hd], last_dots A c B d ys x w (by omega) hB hx hd⟩
end Go.Proofs.YtpmpbmjjlccbbaaGreat.pa
