/- 'Has'; 'DeleteFunc' over items. 'Init' of the heap; 'Drop', 'New' of a queue. A queue in memory as a list in order: each call's contract. Plain facts: rows of names and numbers, rising by name; what setting, taking away and asking come to. -/
import Derived.Test.YtlnlehoekchdeaaGreatZ02
import Derived.Lib.SliceRun
import Derived.Lib.Strings
section
namespace Go.Proofs.YtlnlehoekchdeaaGreat.qu
open Go.RowKit
set_option linter.unusedVariables false


theorem any_of {xs : Array It} {m : Int} {i : Nat} (hi : i < xs.size) (h : (g xs i).num = m) : xs.toList.any (fun x => x.num == m) = true := by
  rw [List.any_eq_true]
  exact ⟨g xs i, by rw [g_get hi]; simp, by simpa using h⟩
theorem not_any_of {xs : Array It} {m : Int} (h : ∀ j, j < xs.size → (g xs j).num ≠ m) : xs.toList.any (fun x => x.num == m) = false := by
  rw [List.any_eq_false]
  intro x hx
  obtain ⟨k, hk, e⟩ := List.getElem_of_mem hx
  have hk' : k < xs.size := by simpa using hk
  have := h k hk'
  rw [g_get hk', show xs[k] = x by simpa using e] at this
  simpa using this
/-! ### DeleteFunc -/
def zc3 : List Value := [.int .i64 0, .int .u64 0, .int .i64 0]
theorem QRow.spoil {G c : Nat} {xs : Array It} : ∀ (vs : List Value) (o : Nat) (w : World), QRow w G c xs → xs.size * 3 ≤ o → QRow (w.setCells G o vs) G c xs
  | [], _, _, h, _ => h
  | v :: r, o, w, h, ho => QRow.spoil r (o + 1) _ (by
      obtain ⟨h1, h2, f, hf, hc⟩ := h
      refine ⟨h1, h2, _, hf.set o v, fun i hi => ?_⟩
      obtain ⟨a, b, d⟩ := hc i hi
      have e1 : ¬ i * 3 = o := by omega
      have e2 : ¬ i * 3 + 1 = o := by omega
      have e3 : ¬ i * 3 + 2 = o := by omega
      simp [e1, e2, e3, a, b, d]) (by omega)
theorem grownBy_sets (G : Nat) : ∀ (vs : List Value) (o : Nat) (w : World), w.grownBy (w.setCells G o vs) (some G)
  | [], _, w => grownBy_refl w _
  | v :: r, o, w => grownBy_trans (grownBy_set w G o v) (grownBy_sets G r (o + 1) _)
set_option maxRecDepth 100000 in
theorem zero53 (w : World) : (zeroValue 134).run Tryz.prog w = .ok (Iv 0 0 0) w := by kernel_rfl
set_option maxRecDepth 100000 in
theorem run_clear3 (w : World) (ty : TypeId) (G o n c : Nat) (hn : 0 < n) (hc : ∀ j, j < n * 3 → (w.cell? ⟨G, o + j, none⟩).isSome = true) (hf : ∀ j, w.frozen? ⟨G, j, none⟩ = false) :
    ∃ vs, (Builtin.clear_ #[129] ty #[.slice (some ⟨G, o, none⟩) n c]).run Tryz.prog w = .ok (.tuple #[]) (w.setCells G o vs) := by
  have hz : (Iv 0 0 0).cells = #[.int .i64 0, .int .u64 0, .int .i64 0] := rfl
  have hmem : ∀ v ∈ (Builtin.zeroCells (Iv 0 0 0).cells n).toList, v.oneCell' = true := by
    intro v hv
    rw [hz] at hv
    simp only [Builtin.zeroCells, Array.toList_map, List.mem_map] at hv
    obtain ⟨i, _, rfl⟩ := hv
    have : i % 3 = 0 ∨ i % 3 = 1 ∨ i % 3 = 2 := by omega
    rcases this with e | e | e <;> simp [e] <;> rfl
  have hlen : (Builtin.zeroCells (Iv 0 0 0).cells n).toList.length = n * 3 := by rw [hz]; simp [Builtin.zeroCells]
  have hst := run_storeCells_cells (P := Tryz.prog) G o (Builtin.zeroCells (Iv 0 0 0).cells n).toList 0 w (fun j hj => by rw [Nat.add_zero]; exact hc j (by omega)) (fun j hj => hf _) hmem
  rw [Nat.add_zero] at hst
  refine ⟨(Builtin.zeroCells (Iv 0 0 0).cells n).toList, ?_⟩
  obtain ⟨m, rfl⟩ : ∃ m, n = m + 1 := ⟨n - 1, by omega⟩
  simp [Builtin.clear_, run_underlying Tryz.underlying129, hst]

def keepB (m : Int) (x : It) : Bool := !(x.num == m)
/-- The first i of ys are what stays of the first j of xs; behind j nothing has turned. -/
structure Inv (m : Int) (xs ys : Array It) (i j : Nat) : Prop where
  lt : i < j
  le : j ≤ xs.size
  size : ys.size = xs.size
  front : ys.toList.take i = (xs.toList.take j).filter (keepB m)
  back : ∀ k, j ≤ k → g ys k = g xs k
theorem take_succ_g {xs : Array It} {j : Nat} (hj : j < xs.size) : xs.toList.take (j + 1) = xs.toList.take j ++ [g xs j] := by
  rw [List.take_succ_eq_append_getElem (by simpa using hj), g_get hj]; simp
theorem Inv.start {m : Int} {xs : Array It} {i : Nat} (hi : i < xs.size) (h : (g xs i).num = m) (hb : ∀ j, j < i → (g xs j).num ≠ m) : Inv m xs xs i (i + 1) := by
  refine ⟨by omega, by omega, rfl, ?_, fun _ _ => rfl⟩
  rw [take_succ_g hi, List.filter_append]
  have e1 : (xs.toList.take i).filter (keepB m) = xs.toList.take i := by
    rw [List.filter_eq_self]
    intro x hx
    obtain ⟨k, hk, e⟩ := List.getElem_of_mem hx
    rw [List.length_take] at hk
    have hk' : k < xs.size := by have := hk; simp at this; omega
    have := hb k (by omega)
    rw [g_get hk', show xs[k] = x by rw [← e]; simp] at this
    simpa [keepB] using this
  rw [e1]
  simp [keepB, h]
theorem Inv.skip {m : Int} {xs ys : Array It} {i j : Nat} (h : Inv m xs ys i j) (hj : j < xs.size) (hx : (g xs j).num = m) : Inv m xs ys i (j + 1) := by
  refine ⟨by have := h.lt; omega, by omega, h.size, ?_, fun k hk => h.back k (by omega)⟩
  rw [take_succ_g hj, List.filter_append, ← h.front]
  simp [keepB, hx]
theorem Inv.keep {m : Int} {xs ys : Array It} {i j : Nat} (h : Inv m xs ys i j) (hj : j < xs.size) (hx : (g xs j).num ≠ m) : Inv m xs (ys.setIfInBounds i (g xs j)) (i + 1) (j + 1) := by
  have hlt := h.lt
  have hi : i < ys.size := by rw [h.size]; omega
  refine ⟨by omega, by omega, by simp [h.size], ?_, fun k hk => by rw [g_set hi, if_neg (by omega)]; exact h.back k (by omega)⟩
  rw [take_succ_g hj, List.filter_append, ← h.front, take_succ_g (xs := ys.setIfInBounds i (g xs j)) (by simpa using hi), g_set hi, if_pos rfl]
  rw [Array.toList_setIfInBounds, List.take_set_of_le (Nat.le_refl _)]
  have hk : keepB m (g xs j) = true := by simpa [keepB] using hx
  simp [hk]
theorem Inv.done {m : Int} {xs ys : Array It} {i : Nat} (h : Inv m xs ys i xs.size) : ys.toList.take i = xs.toList.filter (keepB m) := by
  rw [h.front, List.take_of_length_le (by simp)]
def cutA (ys : Array It) (i : Nat) : Array It := (ys.toList.take i).toArray
theorem size_cutA {ys : Array It} {i : Nat} (hi : i ≤ ys.size) : (cutA ys i).size = i := by simp [cutA]; omega
theorem g_cutA {ys : Array It} {i k : Nat} (hi : i ≤ ys.size) (hk : k < i) : g (cutA ys i) k = g ys k := by
  rw [g_get (by rw [size_cutA hi]; exact hk), g_get (by omega)]; simp [cutA]
theorem QRow.cut {w : World} {G c i : Nat} {ys : Array It} (h : QRow w G c ys) (hi : i ≤ ys.size) : QRow w G c (cutA ys i) := by
  obtain ⟨h1, h2, f, hf, hc⟩ := h
  exact ⟨by rw [size_cutA hi]; omega, h2, f, hf, fun k hk => by rw [size_cutA hi] at hk; rw [g_cutA hi hk]; exact hc k (by omega)⟩

/-- What 'DeleteFunc' hands back. -/
def DelE (w : World) (o : Option Nat) (c : Nat) (m : Int) (xs : Array It) (e : Ending) (w' : World) : Prop :=
  ∃ ys, ys.toList = xs.toList.filter (keepB m) ∧ e = .returned (.slice (Ao o) ys.size c) ∧ Sl w' o c ys ∧ w.grownBy w' o
theorem filter_all {m : Int} {xs : Array It} (h : ∀ j, j < xs.size → (g xs j).num ≠ m) : xs.toList = xs.toList.filter (keepB m) := by
  symm
  rw [List.filter_eq_self]
  intro x hx
  obtain ⟨k, hk, e⟩ := List.getElem_of_mem hx
  have hk' : k < xs.size := by simpa using hk
  have := h k hk'
  rw [g_get hk', show xs[k] = x by simpa using e] at this
  simpa [keepB] using this
theorem delE_all {w w' : World} {o : Option Nat} {c : Nat} {m : Int} {xs : Array It} (h : Sl w o c xs) (ha : ∀ j, j < xs.size → (g xs j).num ≠ m) (hb : Below w.heap.size w w') : DelE w o c m xs (.returned (.slice (Ao o) xs.size c)) w' :=
  ⟨xs, filter_all ha, rfl, h.below hb, grownBy_below hb _⟩

theorem QRow.some_ {w : World} {G c : Nat} {xs : Array It} (h : QRow w G c xs) {o : Nat} (ho : o < c * 3) : (w.cell? ⟨G, o, none⟩).isSome = true := by
  obtain ⟨h1, h2, f, hf, hc⟩ := h
  rw [hf.cell ho]; rfl
theorem delE_some {w wr : World} {G c i n : Nat} {m : Int} {xs ys : Array It} {vs : List Value} (hV : Inv m xs ys i xs.size) (hn : ys.size = n) (hin : i < n) (hR : QRow wr G c ys) (hG : w.grownBy wr (some G)) :
    DelE w (some G) c m xs (.returned (.slice (some ⟨G, 0, none⟩) i c)) (wr.setCells G (i * 3) vs) :=
  ⟨cutA ys i, by rw [← hV.done]; simp [cutA], by rw [size_cutA (by omega)]; rfl, QRow.spoil vs (i * 3) wr (hR.cut (by omega)) (by rw [size_cutA (by omega)]; exact Nat.le_refl _), grownBy_trans hG (grownBy_sets G vs _ _)⟩

end Go.Proofs.YtlnlehoekchdeaaGreat.qu
end
section
namespace Go.Proofs.YtlnlehoekchdeaaGreat.qu
open Go.RowKit
set_option linter.unusedVariables false


def InitE (w : World) (Q lo : Nat) (o : Option Nat) (c T : Nat) (ys : Array It) (e : Ending) (w' : World) : Prop := e = .returned (.tuple #[]) ∧ Qu w' Q lo o c ys T ∧ Fr w w' Q o
theorem Fr.refl (w : World) (Q : Nat) (o : Option Nat) : Fr w w Q o := ⟨rfl, rfl, rfl, Nat.le_refl _, fun _ _ _ _ => rfl⟩
theorem down_size {xs : Array It} {i n : Nat} (hn : n ≤ xs.size) : (down xs i n).size = xs.size :=
  (down_ok xs n (n + i + 1) i hn (fun k hk h0 h1 => by omega) (fun k hk h0 h1 h2 h3 => by omega)).2.2.1

set_option maxRecDepth 100000 in
theorem new_any (w : World) (lo : Nat) (hlo : lo ≤ w.heap.size) : Calls Tryz.prog 50 #[] w (fun e w' => ∃ ob, e = .returned (Pq w.heap.size) ∧ Qu w' w.heap.size lo none 0 #[] 0 ∧ w' = w.alloc ob) := by
  have HQ := Lib.hid (show Qu (w.alloc (.cells #[.slice none 0 0, .int .u64 0] 132)) w.heap.size lo none 0 #[] 0 from ⟨by simp, by simp, by simp, by simp, ⟨rfl, rfl⟩⟩)
  go_enter Tryz.func50, Tryz.ntmps50
  go_wp2_with fail
  go_ret
  exact ⟨_, rfl, HQ.out, rfl⟩

def DropE (w : World) (Q lo : Nat) (o : Option Nat) (c T : Nat) (m : Int) (xs : Array It) (e : Ending) (w' : World) : Prop :=
  ∃ ys, ys.toList = xs.toList.filter (keepB m) ∧ e = .returned (.int .i64 ((xs.size : Int) - (ys.size : Int))) ∧ Qu w' Q lo o c (initN ys.size (ys.size / 2) ys) T ∧ Fr w w' Q o
theorem Qu.deleted {w w1 : World} {Q lo c T : Nat} {o : Option Nat} {xs ys : Array It} (h : Qu w Q lo o c xs T) (hs : Sl w1 o c ys) (hQ : w1.heap[Q]? = w.heap[Q]?) :
    Qu (w1.setCell ⟨Q, 0, none⟩ (.slice (Ao o) ys.size c)) Q lo o c ys T := by
  have n01 : (⟨Q, 0, none⟩ : Addr) ≠ ⟨Q, 1, none⟩ := fun e => by have := congrArg Addr.off e; simp at this
  refine ⟨?_, ?_, ?_, ?_, ?_⟩
  · exact World.cell?_setCell_same _ _ _ ((World.cell?_of_block hQ).trans h.q0)
  · rw [World.cell?_setCell_other _ _ _ _ n01]; exact (World.cell?_of_block hQ).trans h.q1
  · simpa using (World.frozen?_of_block (a := ⟨Q, 0, none⟩) hQ).trans h.f0
  · simpa using (World.frozen?_of_block (a := ⟨Q, 1, none⟩) hQ).trans h.f1
  · cases o with
    | none => exact hs
    | some G => exact ⟨h.row.1, h.row.2.1, QRow.of_block hs (Below.heap_setCell _ _ _ _ (fun e => h.row.2.1 e.symm))⟩
theorem Qu.notQ {w : World} {Q lo c T : Nat} {o : Option Nat} {xs : Array It} (h : Qu w Q lo o c xs T) : some Q ≠ o := by
  cases o with
  | none => simp
  | some G => intro e; injection e with e; exact h.row.2.1 e
theorem Qu.old {w : World} {Q lo c T : Nat} {o : Option Nat} {xs : Array It} (h : Qu w Q lo o c xs T) : ∀ G, o = some G → G < w.heap.size := by
  intro G e; subst e; exact h.row.2.2.lt
theorem Fr.grown {w w' : World} {Q : Nat} {o : Option Nat} (h : w.grownBy w' o) : Fr w w' Q o := ⟨h.os, h.tape, h.output, h.size, fun k hk _ ho => h.block k hk (fun e => ho e.symm)⟩
theorem Fr.setQ (w : World) (Q : Nat) (o : Option Nat) (v : Value) : Fr w (w.setCell ⟨Q, 0, none⟩ v) Q o :=
  ⟨rfl, rfl, rfl, by simp [World.setCell], fun k _ hQ _ => by rw [Below.heap_setCell _ _ _ _ (fun e => hQ e)]⟩
theorem size_initN {n i : Nat} {xs : Array It} (hn : n ≤ xs.size) : (initN n i xs).size = xs.size := by
  induction i generalizing xs with
  | zero => rfl
  | succ i ih => unfold initN; rw [ih (by rw [down_size hn]; exact hn), down_size hn]

end Go.Proofs.YtlnlehoekchdeaaGreat.qu
end
section
namespace Go.Proofs.YtlnlehoekchdeaaGreat.qu
open Go.RowKit
set_option linter.unusedVariables false


/-- The queue at Q is the list L; T were pushed. -/
def QL (w : World) (Q lo : Nat) (o : Option Nat) (L : List KN) (T : Nat) : Prop := ∃ c xs, Qu w Q lo o c xs T ∧ Rep xs T L ∧ L.length ≤ T
theorem QL.lt {w : World} {Q lo T : Nat} {o : Option Nat} {L : List KN} (h : QL w Q lo o L T) : Q < w.heap.size := by
  obtain ⟨c, xs, h, _⟩ := h; exact h.lt
theorem QL.old {w : World} {Q lo T : Nat} {o : Option Nat} {L : List KN} (h : QL w Q lo o L T) : ∀ G, o = some G → G < w.heap.size ∧ lo ≤ G ∧ Q ≠ G := by
  obtain ⟨c, xs, h, _⟩ := h
  intro G e
  exact ⟨h.old G e, by subst e; exact h.row.1, by subst e; exact h.row.2.1⟩
theorem QL.below {w w' : World} {Q lo T : Nat} {o : Option Nat} {L : List KN} (h : QL w Q lo o L T) (hb : Below w.heap.size w w') : QL w' Q lo o L T := by
  obtain ⟨c, xs, h, r⟩ := h; exact ⟨c, xs, h.below hb, r⟩
/-- Another queue's doings leave this one as it is. -/
theorem QL.other {w w' : World} {Q P lo T : Nat} {o o2 : Option Nat} {L : List KN} (h : QL w P lo o2 L T) (hf : Fr w w' Q o) (hPQ : P ≠ Q) (h1 : o ≠ some P) (h2 : ∀ G, o2 = some G → G ≠ Q ∧ o ≠ some G) : QL w' P lo o2 L T := by
  obtain ⟨c, xs, h, r⟩ := h
  have hb := hf.block P h.lt hPQ h1
  refine ⟨c, xs, ⟨(World.cell?_of_block hb).trans h.q0, (World.cell?_of_block hb).trans h.q1, (World.frozen?_of_block (a := ⟨P, 0, none⟩) hb).trans h.f0, (World.frozen?_of_block (a := ⟨P, 1, none⟩) hb).trans h.f1, ?_⟩, r⟩
  cases o2 with
  | none => exact h.row
  | some G => exact ⟨h.row.1, h.row.2.1, h.row.2.2.of_block (hf.block G h.row.2.2.lt (h2 G rfl).1 (h2 G rfl).2)⟩

def popV : List KN → Value
  | [] => .tuple #[.int .i64 0, .int .i64 0, .bool false]
  | a :: _ => .tuple #[.int .i64 a.1, .int .i64 a.2, .bool true]
/-- Behind a call that may have turned the queue. -/
def StepE (w : World) (Q lo : Nat) (o : Option Nat) (v : Value) (L : List KN) (T : Nat) (e : Ending) (w' : World) : Prop :=
  e = .returned v ∧ ∃ o', QL w' Q lo o' L T ∧ (∀ G, o' = some G → o = some G ∨ w.heap.size ≤ G) ∧ Fr w w' Q o

theorem ins_length (x : KN) (L : List KN) : (ins x L).length = L.length + 1 := by
  induction L with
  | nil => rfl
  | cons y l ih => unfold ins; split <;> simp [ih]
set_option maxRecDepth 100000 in
theorem lnew (w : World) (lo : Nat) (hlo : lo ≤ w.heap.size) : Calls Tryz.prog 50 #[] w (fun e w' => e = .returned (Pq w.heap.size) ∧ QL w' w.heap.size lo none [] 0 ∧ Below w.heap.size w w') :=
  (new_any w lo hlo).mono fun _ _ ⟨ob, he, hq, hw⟩ => ⟨he, ⟨0, #[], hq, Rep.nil _, Nat.le_refl _⟩, by rw [hw]; exact below_alloc _ _⟩
set_option maxRecDepth 100000 in
theorem lpush (Q lo T : Nat) (o : Option Nat) (L : List KN) (k m : Int) (w : World) (hlo : lo ≤ w.heap.size) (hT : T ≤ 900000) (h : QL w Q lo o L T) :
    Calls Tryz.prog 51 #[Pq Q, .int .i64 k, .int .i64 m] w (StepE w Q lo o (.tuple #[]) (ins (k, m) L) (T + 1)) := by
  obtain ⟨c, xs, h, r, hl⟩ := h
  have hz := r.size
  refine (qpush_any Q lo c T xs.size o xs k m w hlo rfl (by omega) hT h).mono ?_
  rintro e w' ⟨he, G, c', hq, ho, hf⟩
  obtain ⟨r1, r2⟩ := r.push (Int.natCast_nonneg T) k m
  exact ⟨he, some G, ⟨c', _, hq, by simpa using r1, by rw [ins_length]; omega⟩, fun G' e => by injection e with e; subst e; exact ho, hf⟩
theorem rep_popV {xs : Array It} {T : Int} {L : List KN} (r : Rep xs T L) : popV L = (if xs.size = 0 then .tuple #[.int .i64 0, .int .i64 0, .bool false] else .tuple #[.int .i64 (g xs 0).key, .int .i64 (g xs 0).num, .bool true]) := by
  have hz := r.size
  cases L with
  | nil => rw [if_pos (show xs.size = 0 from hz)]; rfl
  | cons a l =>
    have h0 : 0 < xs.size := by rw [hz]; simp
    rw [if_neg (by omega)]
    have := (r.pop h0).2.2.2
    simp at this
    subst this
    rfl
set_option maxRecDepth 100000 in
theorem lpop (Q lo T : Nat) (o : Option Nat) (L : List KN) (w : World) (hT : T ≤ 900000) (h : QL w Q lo o L T) : Calls Tryz.prog 46 #[Pq Q] w (StepE w Q lo o (popV L) L.tail T) := by
  obtain ⟨c, xs, h, r, hl⟩ := h
  have hz := r.size
  refine (qpop_any Q lo c T o xs w (by omega) h).mono ?_
  rintro e w' (⟨h0, he, hw⟩ | ⟨n, G, c', hn, ho, he, hq, hf⟩)
  · subst hw
    have hL : L = [] := List.eq_nil_of_length_eq_zero (by omega)
    subst hL
    exact ⟨he, o, ⟨c, xs, h, r, hl⟩, fun G e => .inl e, Fr.refl _ _ _⟩
  · obtain ⟨r1, r2, r3, r4⟩ := r.pop (by omega)
    rw [hn, Nat.add_sub_cancel] at r1 r2
    refine ⟨?_, o, ⟨c', _, hq, r1, by rw [List.length_tail]; omega⟩, fun G e => .inl e, hf⟩
    rw [rep_popV r, if_neg (by omega), he, r2]
set_option maxRecDepth 100000 in
theorem llen (Q lo T : Nat) (o : Option Nat) (L : List KN) (w : World) (h : QL w Q lo o L T) : Calls Tryz.prog 144 #[Pq Q] w (fun e w' => e = .returned (.int .i64 L.length) ∧ w = w') := by
  obtain ⟨c, xs, h, r, hl⟩ := h
  have := qlen_any Q lo c T xs.size o xs w rfl h
  rw [r.size] at this
  exact this
def keepN (m : Int) (x : KN) : Bool := !(x.2 == m)
end Go.Proofs.YtlnlehoekchdeaaGreat.qu
end
section
namespace Go.Proofs.YtlnlehoekchdeaaGreat.dn


abbrev Bs := List UInt8
abbrev En := ByteArray × Int
def lessB (a b : ByteArray) : Bool := Op.bytesLess a.toList b.toList

theorem bl_irrefl (a : Bs) : Op.bytesLess a a = false := by
  induction a with
  | nil => rfl
  | cons x a ih => simp [Op.bytesLess, ih]
theorem bl_total (a b : Bs) (h : a ≠ b) : Op.bytesLess a b = !Op.bytesLess b a := by
  induction a generalizing b with
  | nil =>
    cases b with
    | nil => exact absurd rfl h
    | cons y b => rfl
  | cons x a ih =>
    cases b with
    | nil => rfl
    | cons y b =>
      by_cases hxy : x = y
      · subst hxy
        simp [Op.bytesLess, ih b (fun e => h (by rw [e]))]
      · have h1 : x.toNat ≠ y.toNat := fun e => hxy (UInt8.toNat_inj.1 e)
        have h2 : (x == y) = false := by simpa using hxy
        have h3 : (y == x) = false := by simpa using fun e => hxy e.symm
        simp only [Op.bytesLess, h2, h3, Bool.false_and, Bool.or_false]
        rcases Nat.lt_or_ge x.toNat y.toNat with h | h
        · have a1 : x < y := UInt8.lt_iff_toNat_lt.2 h
          have a2 : ¬ y < x := fun e => by have := UInt8.lt_iff_toNat_lt.1 e; omega
          simp [a1, a2]
        · have a1 : y < x := UInt8.lt_iff_toNat_lt.2 (by omega)
          have a2 : ¬ x < y := fun e => by have := UInt8.lt_iff_toNat_lt.1 e; omega
          simp [a1, a2]
theorem bl_trans (a b c : Bs) (h1 : Op.bytesLess a b = true) (h2 : Op.bytesLess b c = true) : Op.bytesLess a c = true := by
  induction a generalizing b c with
  | nil =>
    cases c with
    | nil => cases b <;> simp [Op.bytesLess] at h2
    | cons z c => rfl
  | cons x a ih =>
    cases b with
    | nil => simp [Op.bytesLess] at h1
    | cons y b =>
      cases c with
      | nil => simp [Op.bytesLess] at h2
      | cons z c =>
        simp only [Op.bytesLess, Bool.or_eq_true, Bool.and_eq_true, decide_eq_true_eq, beq_iff_eq, UInt8.lt_iff_toNat_lt] at h1 h2 ⊢
        rcases h1 with h1 | ⟨rfl, h1⟩
        · rcases h2 with h2 | ⟨rfl, h2⟩
          · exact .inl (by omega)
          · exact .inl h1
        · rcases h2 with h2 | ⟨rfl, h2⟩
          · exact .inl h2
          · exact .inr ⟨rfl, ih b c h1 h2⟩

theorem toList_inj {a b : ByteArray} (h : a.toList = b.toList) : a = b := by
  rw [Lib.toList_data, Lib.toList_data] at h
  rw [← Lib.mk_data a, ← Lib.mk_data b, h]
theorem beq_names (a b : ByteArray) : (a.toList == b.toList) = decide (a = b) := by
  by_cases h : a = b
  · subst h; simp
  · rw [decide_eq_false h, beq_eq_false_iff_ne]; exact fun e => h (toList_inj e)
theorem less_irrefl (a : ByteArray) : lessB a a = false := bl_irrefl _
theorem less_total {a b : ByteArray} (h : a ≠ b) : lessB a b = !lessB b a := bl_total _ _ fun e => h (toList_inj e)
theorem less_trans {a b c : ByteArray} (h1 : lessB a b = true) (h2 : lessB b c = true) : lessB a c = true := bl_trans _ _ _ h1 h2
theorem less_ne {a b : ByteArray} (h : lessB a b = true) : a ≠ b := fun e => by subst e; rw [less_irrefl] at h; cases h
theorem less_asymm {a b : ByteArray} (h : lessB a b = true) : lessB b a = false := by
  rw [less_total (less_ne h)] at h; simpa using h
theorem less_of {a b : ByteArray} (h1 : a ≠ b) (h2 : lessB a b = false) : lessB b a = true := by
  rw [less_total h1] at h2; simpa using h2

def Sorted (L : List En) : Prop := L.Pairwise fun a b => lessB a.1 b.1 = true

def lset (s : ByteArray) (v : Int) : List En → List En
  | [] => [(s, v)]
  | e :: l => if lessB e.1 s then e :: lset s v l else if e.1 = s then (s, v) :: l else (s, v) :: e :: l
def lget (s : ByteArray) (L : List En) : Option Int := (L.find? fun e => decide (e.1 = s)).map (·.2)
def ldel (s : ByteArray) (L : List En) : List En := L.filter fun e => !decide (e.1 = s)
def lnext (s : ByteArray) (L : List En) : Option En := L.find? fun e => lessB s e.1

theorem Sorted.cons {e : En} {l : List En} (h : Sorted (e :: l)) : Sorted l ∧ ∀ x ∈ l, lessB e.1 x.1 = true := ⟨(List.pairwise_cons.1 h).2, (List.pairwise_cons.1 h).1⟩
theorem lset_mem {s : ByteArray} {v : Int} {L : List En} (h : Sorted L) (e : En) : e ∈ lset s v L ↔ e = (s, v) ∨ (e ∈ L ∧ e.1 ≠ s) := by
  induction L with
  | nil => simp [lset]
  | cons x l ih =>
    obtain ⟨h1, h2⟩ := h.cons
    unfold lset
    by_cases hx : lessB x.1 s = true
    · rw [if_pos hx, List.mem_cons, ih h1, List.mem_cons]
      have hne := less_ne hx
      constructor
      · rintro (rfl | h | ⟨h, h'⟩)
        · exact .inr ⟨.inl rfl, hne⟩
        · exact .inl h
        · exact .inr ⟨.inr h, h'⟩
      · rintro (h | ⟨rfl | h, h'⟩)
        · exact .inr (.inl h)
        · exact .inl rfl
        · exact .inr (.inr ⟨h, h'⟩)
    · rw [if_neg hx]
      by_cases hs : x.1 = s
      · rw [if_pos hs, List.mem_cons, List.mem_cons]
        constructor
        · rintro (h | h)
          · exact .inl h
          · exact .inr ⟨.inr h, fun e' => less_ne (h2 e h) (hs.trans e'.symm)⟩
        · rintro (h | ⟨rfl | h, h'⟩)
          · exact .inl h
          · exact absurd hs h'
          · exact .inr h
      · rw [if_neg hs, List.mem_cons, List.mem_cons]
        have hsx : lessB s x.1 = true := less_of hs (by simpa using hx)
        constructor
        · rintro (h | rfl | h)
          · exact .inl h
          · exact .inr ⟨.inl rfl, hs⟩
          · exact .inr ⟨.inr h, fun e' => less_ne (less_trans hsx (h2 e h)) e'.symm⟩
        · rintro (h | ⟨h, _⟩)
          · exact .inl h
          · exact .inr h
theorem lset_sorted {s : ByteArray} {v : Int} {L : List En} (h : Sorted L) : Sorted (lset s v L) := by
  induction L with
  | nil => simp [lset, Sorted]
  | cons x l ih =>
    obtain ⟨h1, h2⟩ := h.cons
    unfold lset
    by_cases hx : lessB x.1 s = true
    · rw [if_pos hx]
      refine List.pairwise_cons.2 ⟨fun e he => ?_, ih h1⟩
      rcases (lset_mem h1 e).1 he with rfl | ⟨he, _⟩
      · exact hx
      · exact h2 e he
    · rw [if_neg hx]
      by_cases hs : x.1 = s
      · rw [if_pos hs]
        exact List.pairwise_cons.2 ⟨fun e he => by have := h2 e he; rw [hs] at this; exact this, h1⟩
      · rw [if_neg hs]
        have hsx : lessB s x.1 = true := less_of hs (by simpa using hx)
        refine List.pairwise_cons.2 ⟨fun e he => ?_, h⟩
        rcases List.mem_cons.1 he with rfl | he
        · exact hsx
        · exact less_trans hsx (h2 e he)
theorem ldel_mem {s : ByteArray} {L : List En} (e : En) : e ∈ ldel s L ↔ e ∈ L ∧ e.1 ≠ s := by simp [ldel, List.mem_filter]
theorem ldel_sorted {s : ByteArray} {L : List En} (h : Sorted L) : Sorted (ldel s L) := List.Pairwise.filter _ h
theorem names_inj {L : List En} (h : Sorted L) {a b : En} (ha : a ∈ L) (hb : b ∈ L) (e : a.1 = b.1) : a = b := by
  induction L with
  | nil => cases ha
  | cons x l ih =>
    obtain ⟨h1, h2⟩ := h.cons
    rcases List.mem_cons.1 ha with rfl | ha' <;> rcases List.mem_cons.1 hb with rfl | hb'
    · rfl
    · exact absurd e (less_ne (h2 b hb'))
    · exact absurd e.symm (less_ne (h2 a ha'))
    · exact ih h1 ha' hb'
theorem lget_some {s : ByteArray} {v : Int} {L : List En} (h : Sorted L) : lget s L = some v ↔ (s, v) ∈ L := by
  unfold lget
  constructor
  · intro e
    cases hf : L.find? fun e => decide (e.1 = s) with
    | none => rw [hf] at e; simp at e
    | some x =>
      rw [hf] at e
      have h1 := List.mem_of_find?_eq_some hf
      have h2 := List.find?_some hf
      simp at h2 e
      obtain ⟨a, b⟩ := x
      simp at h2 e
      subst h2; subst e
      exact h1
  · intro hm
    cases hf : L.find? fun e => decide (e.1 = s) with
    | none =>
      have := List.find?_eq_none.1 hf (s, v) hm
      simp at this
    | some x =>
      have h1 := List.mem_of_find?_eq_some hf
      have h2 := List.find?_some hf
      simp at h2
      have := names_inj h h1 hm h2
      subst this
      rfl
theorem lget_none {s : ByteArray} {L : List En} : lget s L = none ↔ ∀ e ∈ L, e.1 ≠ s := by simp [lget]
theorem sorted_ext {L K : List En} (hL : Sorted L) (hK : Sorted K) (h : ∀ e, e ∈ L ↔ e ∈ K) : L = K := by
  induction L generalizing K with
  | nil =>
    cases K with
    | nil => rfl
    | cons y k => have := (h y).2 (by simp); cases this
  | cons x l ih =>
    cases K with
    | nil => have := (h x).1 (by simp); cases this
    | cons y k =>
      obtain ⟨l1, l2⟩ := hL.cons
      obtain ⟨k1, k2⟩ := hK.cons
      have hxy : x = y := by
        rcases List.mem_cons.1 ((h x).1 (by simp)) with e | e1
        · exact e
        · rcases List.mem_cons.1 ((h y).2 (by simp)) with e | e2
          · exact e.symm
          · have := less_asymm (l2 y e2); rw [k2 x e1] at this; cases this
      subst hxy
      refine congrArg _ (ih l1 k1 fun e => ⟨fun he => ?_, fun he => ?_⟩)
      · rcases List.mem_cons.1 ((h e).1 (by simp [he])) with rfl | h'
        · have := l2 e he; rw [less_irrefl] at this; cases this
        · exact h'
      · rcases List.mem_cons.1 ((h e).2 (by simp [he])) with rfl | h'
        · have := k2 e he; rw [less_irrefl] at this; cases this
        · exact h'

/-- The place at which a name stands, or would stand. -/
def pos (s : ByteArray) : List En → Nat
  | [] => 0
  | e :: l => if lessB e.1 s then pos s l + 1 else 0
theorem pos_le (s : ByteArray) (L : List En) : pos s L ≤ L.length := by
  induction L with
  | nil => exact Nat.le_refl _
  | cons x l ih => unfold pos; split <;> simp <;> omega
theorem pos_lt {s : ByteArray} {L : List En} {i : Nat} (hi : i < pos s L) {x : En} (hx : L[i]? = some x) : lessB x.1 s = true := by
  induction L generalizing i with
  | nil => simp [pos] at hi
  | cons y l ih =>
    unfold pos at hi
    split at hi
    · rename_i h
      cases i with
      | zero => simp at hx; subst hx; exact h
      | succ i => exact ih (i := i) (by omega) (by simpa using hx)
    · omega
theorem pos_ge {s : ByteArray} {L : List En} (hs : Sorted L) {i : Nat} (hi : pos s L ≤ i) {x : En} (hx : L[i]? = some x) : lessB x.1 s = false := by
  induction L generalizing i with
  | nil => simp at hx
  | cons y l ih =>
    obtain ⟨h1, h2⟩ := hs.cons
    unfold pos at hi
    split at hi
    · cases i with
      | zero => omega
      | succ i => exact ih (i := i) h1 (by omega) (by simpa using hx)
    · rename_i h
      cases i with
      | zero => simp at hx; subst hx; simpa using h
      | succ i =>
        have hm : x ∈ l := List.mem_of_getElem? (by simpa using hx)
        rw [Bool.eq_false_iff]
        intro hc
        exact h (less_trans (h2 x hm) hc)
/-- What a name leads to. -/
theorem lget_pos {s : ByteArray} {L : List En} (hs : Sorted L) : lget s L = match L[pos s L]? with | some x => if x.1 = s then some x.2 else none | none => none := by
  cases hx : L[pos s L]? with
  | none =>
    simp only
    rw [lget_none]
    intro e he hn
    obtain ⟨i, hi, rfl⟩ := List.getElem_of_mem he
    have hl : L.length ≤ pos s L := by simpa using hx
    have := pos_lt (s := s) (L := L) (i := i) (by omega) (List.getElem?_eq_getElem hi)
    exact less_ne this hn
  | some x =>
    simp only
    split
    · rename_i hn
      rw [lget_some hs, ← hn]
      exact List.mem_of_getElem? hx
    · rename_i hn
      rw [lget_none]
      intro e he hne
      obtain ⟨i, hi, rfl⟩ := List.getElem_of_mem he
      rcases Nat.lt_trichotomy i (pos s L) with h | h | h
      · exact less_ne (pos_lt h (List.getElem?_eq_getElem hi)) hne
      · subst h
        rw [List.getElem?_eq_getElem hi] at hx
        simp at hx
        exact hn (by rw [← hx]; exact hne)
      · have h1 := List.pairwise_iff_getElem.1 hs (pos s L) i (by omega) hi h
        have h2 : L[pos s L] = x := by rw [List.getElem?_eq_getElem (by omega)] at hx; simpa using hx
        have h3 := pos_ge hs (Nat.le_refl _) hx
        rw [h2, hne] at h1
        rw [h1] at h3
        cases h3
theorem lset_new {s : ByteArray} {v : Int} {L : List En} (h : ∀ x, L[pos s L]? = some x → x.1 ≠ s) : lset s v L = L.take (pos s L) ++ (s, v) :: L.drop (pos s L) := by
  induction L with
  | nil => rfl
  | cons y l ih =>
    unfold lset pos
    by_cases hy : lessB y.1 s = true
    · rw [if_pos hy, if_pos hy, List.take_succ_cons, List.drop_succ_cons, List.cons_append, ← ih]
      intro x hx
      refine h x ?_
      unfold pos
      rw [if_pos hy]
      simpa using hx
    · rw [if_neg hy, if_neg hy]
      have : y.1 ≠ s := h y (by unfold pos; rw [if_neg hy]; rfl)
      rw [if_neg this]
      rfl
theorem lset_old {s : ByteArray} {v : Int} {L : List En} {x : En} (h : L[pos s L]? = some x) (hx : x.1 = s) : lset s v L = L.set (pos s L) (s, v) := by
  induction L with
  | nil => simp at h
  | cons y l ih =>
    unfold lset pos
    unfold pos at h
    by_cases hy : lessB y.1 s = true
    · rw [if_pos hy] at h ⊢
      rw [if_pos hy, List.set_cons_succ, ih (by simpa using h)]
    · rw [if_neg hy] at h ⊢
      simp at h
      subst h
      rw [if_neg hy, if_pos hx]
      rfl
theorem ldel_no {s : ByteArray} {L : List En} (h : lget s L = none) : ldel s L = L := by
  rw [lget_none] at h
  unfold ldel
  rw [List.filter_eq_self]
  intro x hx
  simpa using h x hx
theorem ldel_at {s : ByteArray} {L : List En} (hs : Sorted L) {x : En} (h : L[pos s L]? = some x) (hx : x.1 = s) : ldel s L = L.eraseIdx (pos s L) := by
  induction L with
  | nil => simp at h
  | cons y l ih =>
    obtain ⟨h1, h2⟩ := hs.cons
    unfold pos
    unfold pos at h
    by_cases hy : lessB y.1 s = true
    · rw [if_pos hy] at h ⊢
      rw [List.eraseIdx_cons_succ, ← ih h1 (by simpa using h)]
      unfold ldel
      rw [List.filter_cons, if_pos (by simpa using less_ne hy)]
    · rw [if_neg hy] at h ⊢
      simp at h
      subst h
      rw [List.eraseIdx_cons_zero]
      unfold ldel
      rw [List.filter_cons, if_neg (by simpa using hx), List.filter_eq_self]
      intro z hz
      have := less_ne (h2 z hz)
      simpa using fun e => this (hx.trans e.symm)
theorem lset_length (s : ByteArray) (v : Int) (L : List En) : (lset s v L).length ≤ L.length + 1 := by
  induction L with
  | nil => simp [lset]
  | cons y l ih => unfold lset; split <;> (try split) <;> simp <;> omega
theorem ldel_length (s : ByteArray) (L : List En) : (ldel s L).length ≤ L.length := List.length_filter_le _ _

/-- How many names are at most s. -/
def nps (s : ByteArray) : List En → Nat
  | [] => 0
  | e :: l => if lessB s e.1 then 0 else nps s l + 1
theorem nps_le (s : ByteArray) (L : List En) : nps s L ≤ L.length := by
  induction L with
  | nil => exact Nat.le_refl _
  | cons x l ih => unfold nps; split <;> simp <;> omega
theorem nps_lt {s : ByteArray} {L : List En} {i : Nat} (hi : i < nps s L) {x : En} (hx : L[i]? = some x) : lessB s x.1 = false := by
  induction L generalizing i with
  | nil => simp [nps] at hi
  | cons y l ih =>
    unfold nps at hi
    split at hi
    · omega
    · rename_i h
      cases i with
      | zero => simp at hx; subst hx; simpa using h
      | succ i => exact ih (i := i) (by omega) (by simpa using hx)
theorem nps_ge {s : ByteArray} {L : List En} (hs : Sorted L) {i : Nat} (hi : nps s L ≤ i) {x : En} (hx : L[i]? = some x) : lessB s x.1 = true := by
  induction L generalizing i with
  | nil => simp at hx
  | cons y l ih =>
    obtain ⟨h1, h2⟩ := hs.cons
    unfold nps at hi
    split at hi
    · rename_i h
      cases i with
      | zero => simp at hx; subst hx; exact h
      | succ i => exact less_trans h (h2 x (List.mem_of_getElem? (by simpa using hx)))
    · cases i with
      | zero => omega
      | succ i => exact ih (i := i) h1 (by omega) (by simpa using hx)
theorem lnext_nps (s : ByteArray) (L : List En) : lnext s L = L[nps s L]? := by
  unfold lnext
  induction L with
  | nil => rfl
  | cons y l ih =>
    unfold nps
    rw [List.find?_cons]
    by_cases h : lessB s y.1 = true
    · rw [if_pos h, h]; rfl
    · rw [if_neg h, show lessB s y.1 = false by simpa using h]; simpa using ih
end Go.Proofs.YtlnlehoekchdeaaGreat.dn
end
