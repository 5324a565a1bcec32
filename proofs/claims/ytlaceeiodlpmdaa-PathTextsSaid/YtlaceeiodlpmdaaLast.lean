/- 'Last': what it hands back of any path. -/
import Derived.Test.YtlaceeiodlpmdaaParse
import Derived.Test.YtlaceeiodlpmdaaText
import Derived.RegionTactic
import Derived.ChangeAlike
namespace Go.Proofs.Ytlaceeiodlpmdaa
open Go.RowKit

def LastNo (w : World) (e : Ending) (w' : World) : Prop := e = .returned (.tuple #[Pv none 0 0 false, Sv [], .int .i64 16]) ∧ Below w.heap.size w w'
def LastYes (w : World) (ys : List Bs) (x : Bs) (e : Ending) (w' : World) : Prop :=
  ∃ A c, e = .returned (.tuple #[Pv A ys.length c true, Sv x, .int .i64 0]) ∧ Own w' w.heap.size A c ys ∧ Below w.heap.size w w'

set_option maxHeartbeats 400000 in
theorem last_none (A : Option Addr) (c : Nat) (d : Bool) (w : World) : Calls Try.prog 19 #[Pv A 0 c d] w (LastNo w) := by
  go_enter Try.func19, Try.ntmps19
  go_wp2
  exact bodyPost_ret (v := .tuple #[Pv none 0 0 false, Sv [], .int .i64 16]) (by simp [results, Try.results19, go_sem]) rfl ⟨rfl, ((Below.refl _ _).alloc (Nat.le_refl _) _).alloc (by simp) _⟩

theorem last_get {w : World} {B : Nat} {A : Option Addr} {ys : List Bs} {x : Bs} (h : Strs w B A (ys ++ [x])) :
    ∃ ad, A = some ad ∧ ad.block < B ∧ w.cell? (ad.add ys.length) = some (Sv x) ∧ ∀ (j : Nat) y, ys[j]? = some y → w.cell? (ad.add j) = some (Sv y) := by
  obtain ⟨ad, rfl, hb, hc⟩ := h (by simp)
  refine ⟨ad, rfl, hb, hc _ _ (by simp), fun j y hy => hc j y ?_⟩
  rw [List.getElem?_append_left (List.getElem?_eq_some_iff.1 hy).1]
  exact hy

set_option maxHeartbeats 400000 in
theorem last_dots (A : Option Addr) (c B : Nat) (d : Bool) (ys : List Bs) (x : Bs) (w : World) (hl : ys.length ≤ 65536) (hB : B ≤ w.heap.size) (hx : Strs w B A (ys ++ [x])) (hd : dotB x = true) :
    Calls Try.prog 19 #[Pv A (ys.length + 1) c d] w (LastNo w) := by
  obtain ⟨ad, rfl, hb, hcell, -⟩ := last_get hx
  have hc1 : ∀ o1 o2, ((w.alloc o1).alloc o2).cell? (ad.add ys.length) = some (Sv x) := fun o1 o2 => by
    rw [World.cell?_alloc_lt _ _ _ (by rw [addr_block]; simp; omega), World.cell?_alloc_lt _ _ _ (by rw [addr_block]; omega)]; exact hcell
  clear hcell hx
  generalize ys.length = n at *
  go_enter Try.func19, Try.ntmps19
  go_wp2_with (go_at_call 33; refine (dots_any _ _).mono ?_; rintro e w' ⟨rfl, rfl⟩)
  exact bodyPost_ret (v := .tuple #[Pv none 0 0 false, Sv [], .int .i64 16]) (by simp [results, Try.results19, go_sem]) rfl ⟨rfl, ((Below.refl _ _).alloc (Nat.le_refl _) _).alloc (by simp) _⟩

set_option maxHeartbeats 1000000 in
theorem last_yes (A : Option Addr) (c B : Nat) (d : Bool) (ys : List Bs) (x : Bs) (w : World) (hl : ys.length ≤ 65536) (hc : ys.length + 1 ≤ c) (hB : B ≤ w.heap.size) (hx : Strs w B A (ys ++ [x])) (hd : dotB x = false) :
    Calls Try.prog 19 #[Pv A (ys.length + 1) c d] w (LastYes w ys x) := by
  obtain ⟨i0, hi, hz0, hz1, hz2⟩ := info_parts info9
  obtain ⟨ad, rfl, hb, hcell, hcs⟩ := last_get hx
  have hk : ∀ o1 o2 p, p.block < B → ((w.alloc o1).alloc o2).cell? p = w.cell? p := fun o1 o2 p hp => by
    rw [World.cell?_alloc_lt _ _ _ (by simp; omega), World.cell?_alloc_lt _ _ _ (by omega)]
  have hc1 : ∀ o1 o2, ((w.alloc o1).alloc o2).cell? (ad.add ys.length) = some (Sv x) := fun o1 o2 => (hk _ _ _ (by rw [addr_block]; exact hb)).trans hcell
  have HC := Lib.hid (show ∀ o1 o2 (j : Nat) u, (ys.map Sv)[j]? = some u → ((w.alloc o1).alloc o2).cell? (ad.add j) = some u by
    intro o1 o2 j u hu
    rw [List.getElem?_map, Option.map_eq_some_iff] at hu
    obtain ⟨y, hy, rfl⟩ := hu
    exact (hk _ _ _ (by rw [addr_block]; exact hb)).trans (hcs j y hy))
  clear hcell hx hcs hk
  obtain ⟨n, hn⟩ : ∃ n, n = ys.length := ⟨_, rfl⟩
  have HN := Lib.hid hn
  rw [← hn] at hc1 hl hc ⊢
  clear hn
  go_enter Try.func19, Try.ntmps19
  go_wp2_with (first
    | (go_at_call 33; refine (dots_any _ _).mono ?_; rintro e w' ⟨rfl, rfl⟩)
    | (at_builtin; go_must (refine wpList_append_own _ rfl _ (.tmp 25) 23 rfl (w.heap.size + 2) 9 i0 _ 1 16 Try.underlying23 hi hz0 hz1 hz2 rfl (by decide) (.slice none 0 0) 0 [] rfl (World.ownsRow_nil _ _ _ _) ad n c (ys.map Sv) rfl (by rw [List.length_map, ← HN.out]; omega) (HC.out _ _) (by intro u hu; simp at hu; obtain ⟨_, _, rfl⟩ := hu; rfl) (by unfold maxLen; omega) (by omega) (by simp) ?_); intro v1 w2 hown1 hgrow1 _))
  have hb2 : Below (w.heap.size + 2) ((w.alloc (.cells #[.slice (some ad) (n + 1) c, .bool d] 25)).alloc (.cells #[.slice none 0 0, .bool false] 25)) w2 :=
    (Below.refl _ _).grown hgrow1 (by simp) (fun k hk => by simp [Value.ownBlock] at hk)
  have hb1 : Below w.heap.size w w2 := (((Below.refl _ _).alloc (Nat.le_refl _) _).alloc (by simp) _).trans (hb2.mono (by omega))
  have sz : w.heap.size + 2 ≤ w2.heap.size := by have := hb2.size; simpa using this
  have q0 : w2.cell? ⟨w.heap.size, 0, none⟩ = some (.slice (some ad) (n + 1) c) := by rw [hb2.cell (p := ⟨w.heap.size, 0, none⟩) (by simp)]; simp [World.cell?_alloc_past]
  have r0 : w2.cell? ⟨w.heap.size + 1, 0, none⟩ = some (.slice none 0 0) := by rw [hb2.cell (p := ⟨w.heap.size + 1, 0, none⟩) (by simp)]; simp
  have r1 : w2.cell? ⟨w.heap.size + 1, 1, none⟩ = some (.bool false) := by rw [hb2.cell (p := ⟨w.heap.size + 1, 1, none⟩) (by simp)]; simp
  have f0 : w2.frozen? ⟨w.heap.size + 1, 0, none⟩ = false := by rw [hb2.frozen (p := ⟨w.heap.size + 1, 0, none⟩) (by simp)]; simp
  have f1 : w2.frozen? ⟨w.heap.size + 1, 1, none⟩ = false := by rw [hb2.frozen (p := ⟨w.heap.size + 1, 1, none⟩) (by simp)]; simp
  have hc2 : w2.cell? (ad.add n) = some (Sv x) := by rw [hb2.cell (p := ad.add n) (by rw [addr_block]; omega)]; exact hc1 _ _
  rw [List.nil_append] at hown1
  obtain ⟨A1, c1, rfl, hown, -⟩ := own_form hown1
  clear hc1 hb2 hgrow1 hown1
  have hc3 : ∀ u1 u2, ((w2.setCell ⟨w.heap.size + 1, 0, none⟩ u1).setCell ⟨w.heap.size + 1, 1, none⟩ u2).cell? (ad.add n) = some (Sv x) := fun u1 u2 => by
    have hne : ∀ i, ad.add n ≠ ⟨w.heap.size + 1, i, none⟩ := fun i e => by
      have := congrArg Addr.block e
      rw [addr_block] at this
      simp at this
      omega
    rw [World.cell?_setCell_other _ _ _ _ (fun e => hne _ e.symm), World.cell?_setCell_other _ _ _ _ (fun e => hne _ e.symm)]
    exact hc2
  go_region
  all_goals go_wp2
  refine bodyPost_ret (v := .tuple #[Pv A1 ys.length c1 true, Sv x, .int .i64 0]) (by simp [results, Try.results19, go_sem, r0, r1]) rfl ⟨A1, c1, rfl, ?_, ?_⟩
  · exact ((hown.set (by simp) _).set (by simp) _).base (by omega)
  · exact ((hb1.setCell (by simp) _).setCell (by simp) _).drew

/-- What 'Last' hands back of any path. -/
def lastNo (xs : List Bs) : Bool := match xs.getLast? with | some x => dotB x | none => true
theorem last_any (A : Option Addr) (n c B : Nat) (d : Bool) (xs : List Bs) (w : World) (hn : n = xs.length) (hl : n ≤ 65536) (hc : n ≤ c) (hB : B ≤ w.heap.size) (hx : Strs w B A xs) :
    (lastNo xs = true ∧ Calls Try.prog 19 #[Pv A n c d] w (LastNo w)) ∨ ∃ ys x, xs = ys ++ [x] ∧ dotB x = false ∧ Calls Try.prog 19 #[Pv A n c d] w (LastYes w ys x) := by
  subst hn
  rcases List.eq_nil_or_concat xs with rfl | ⟨ys, x, rfl⟩
  · exact .inl ⟨rfl, last_none A c d w⟩
  · rw [List.concat_eq_append] at hx hl hc ⊢
    rw [List.length_append, List.length_singleton] at hl hc ⊢
    cases hd : dotB x
    · exact .inr ⟨ys, x, rfl, hd, last_yes A c B d ys x w (by omega) hc hB hx hd⟩
    · exact .inl ⟨by simp [lastNo, hd], last_dots A c B d ys x w (by omega) hB hx hd⟩

end Go.Proofs.Ytlaceeiodlpmdaa
