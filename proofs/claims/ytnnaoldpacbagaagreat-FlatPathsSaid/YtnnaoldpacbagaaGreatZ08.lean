/- A store and its bodies beside each other. -/
import Derived.Test.YtnnaoldpacbagaaGreatZ07
import Derived.Laws.IdiomStrings
import Derived.Lib.BufferRead
section
namespace Go.Proofs.YtnnaoldpacbagaaGreat.bl
open Go.RowKit
set_option linter.unusedVariables false
set_option linter.unusedSimpArgs false


def tot : Nat → (Nat → AB) → Nat
  | 0, _ => 0
  | K + 1, b => tot K b + (b K).n
def updF {α : Type} (f : Nat → α) (k : Nat) (v : α) : Nat → α := fun x => if x = k then v else f x
theorem updF_same {α : Type} (f : Nat → α) (k : Nat) (v : α) : updF f k v k = v := by unfold updF; rw [if_pos rfl]
theorem updF_other {α : Type} {f : Nat → α} {k j : Nat} {v : α} (h : j ≠ k) : updF f k v j = f j := by unfold updF; rw [if_neg h]
theorem tot_congr {b b' : Nat → AB} : ∀ {K : Nat}, (∀ k, k < K → b k = b' k) → tot K b = tot K b'
  | 0, _ => rfl
  | K + 1, h => by unfold tot; rw [tot_congr (fun k hk => h k (by omega)), h K (by omega)]
theorem tot_le {b : Nat → AB} {k : Nat} : ∀ {K : Nat}, k < K → (b k).n ≤ tot K b
  | 0, h => absurd h (Nat.not_lt_zero _)
  | K + 1, h => by
    unfold tot
    by_cases e : k = K
    · subst e; omega
    · have := tot_le (b := b) (k := k) (K := K) (by omega); omega
theorem tot_upd {b : Nat → AB} {k : Nat} {v : AB} : ∀ {K : Nat}, k < K → tot K (updF b k v) + (b k).n = tot K b + v.n
  | 0, h => absurd h (Nat.not_lt_zero _)
  | K + 1, h => by
    unfold tot
    by_cases e : k = K
    · subst e
      rw [updF_same, tot_congr (b := updF b k v) (b' := b) (fun j hj => updF_other (by omega))]; omega
    · have := tot_upd (b := b) (k := k) (v := v) (K := K) (by omega)
      rw [updF_other (by omega : K ≠ k)]; omega

/-- The blocks of a store and its bodies. -/
def FP (S K : Nat) (B M : Nat → Nat) (x : Nat) : Prop := x = S ∨ ∃ k, k < K ∧ (x = B k ∨ x = M k)
structure Sys (w : World) (S room K : Nat) (B M : Nat → Nat) (b : Nat → AB) : Prop where
  s : StoC w S room (tot K b)
  le : tot K b ≤ room
  room : room ≤ 65536
  bod : ∀ k, k < K → Bod w S (B k) (M k) (b k)
  sB : ∀ k, k < K → S ≠ B k ∧ S ≠ M k
  sep : ∀ j k, j < K → k < K → B j ≠ M k ∧ (j ≠ k → B j ≠ B k ∧ M j ≠ M k)
theorem fp_FP {S K k : Nat} {B M : Nat → Nat} (hk : k < K) : ∀ x, fp S (B k) (M k) x → FP S K B M x := by
  rintro x (h | h | h)
  · exact Or.inl h
  · exact Or.inr ⟨k, hk, Or.inl h⟩
  · exact Or.inr ⟨k, hk, Or.inr h⟩
theorem Sys.ltS {w : World} {S room K : Nat} {B M : Nat → Nat} {b : Nat → AB} (h : Sys w S room K B M b) : S < w.heap.size := World.block_lt_of_cell? w _ h.s.c0
theorem Sys.keep {w w' : World} {S room K : Nat} {B M : Nat → Nat} {b : Nat → AB} (h : Sys w S room K B M b) {F : Nat → Prop} (ho : Only F w w') (hF : ∀ x, FP S K B M x → ¬ F x) : Sys w' S room K B M b :=
  ⟨h.s.below (ho.block S h.ltS (hF S (Or.inl rfl))), h.le, h.room, fun k hk => (h.bod k hk).keep (ho.block _ (h.bod k hk).ltB (hF _ (Or.inr ⟨k, hk, Or.inl rfl⟩))) (ho.block _ (h.bod k hk).ltM (hF _ (Or.inr ⟨k, hk, Or.inr rfl⟩))), h.sB, h.sep⟩
theorem Sys.below {w w' : World} {S room K : Nat} {B M : Nat → Nat} {b : Nat → AB} (h : Sys w S room K B M b) (hb : Below w.heap.size w w') : Sys w' S room K B M b :=
  h.keep (F := fun _ => False) (Only.of_below hb) (fun _ _ h => h)
theorem Sys.step {w w' : World} {S room K k : Nat} {B M : Nat → Nat} {b : Nat → AB} {b' : AB} (h : Sys w S room K B M b) (hk : k < K) (he : BodE w S (B k) (M k) room (tot K b) (b k) b' w') (hle : tot K b + b'.n - (b k).n ≤ room) :
    Sys w' S room K B M (updF b k b') ∧ Only (FP S K B M) w w' := by
  have ht := tot_upd (b := b) (v := b') hk
  have hl := tot_le (b := b) hk
  have hu : tot K b + b'.n - (b k).n = tot K (updF b k b') := by omega
  refine ⟨⟨by rw [← hu]; exact he.s, by rw [← hu]; exact hle, h.room, fun j hj => ?_, h.sB, h.sep⟩, he.o.mono (fp_FP hk)⟩
  by_cases e : j = k
  · subst e; rw [updF_same]; exact he.b
  · rw [updF_other e]
    have s1 := h.sep j k hj hk
    have s2 := h.sep k j hk hj
    have s3 := h.sB j hj
    refine (h.bod j hj).keep (he.o.block _ (h.bod j hj).ltB ?_) (he.o.block _ (h.bod j hj).ltM ?_)
    · rintro (x | x | x)
      · exact s3.1 x.symm
      · exact (s1.2 e).1 x
      · exact s1.1 x
    · rintro (x | x | x)
      · exact s3.2 x.symm
      · exact s2.1 x.symm
      · exact (s1.2 e).2 x

theorem sys_new {w : World} {room : Nat} (hr : room ≤ 65536) : Sys (w.alloc (.cells #[.int .i64 (room : Int), .int .i64 0] 191)) w.heap.size room 0 (fun _ => 0) (fun _ => 0) (fun _ => ⟨0, fun _ => false, fun _ => 0⟩) :=
  ⟨⟨by simp, by simp [tot], by simp⟩, Nat.zero_le _, hr, fun k hk => absurd hk (Nat.not_lt_zero _), fun k hk => absurd hk (Nat.not_lt_zero _), fun j k hj => absurd hj (Nat.not_lt_zero _)⟩
def AB.empty : AB := ⟨0, fun _ => false, fun _ => 0⟩
theorem cnt_none (N : Nat) : cnt N (fun _ => false) = 0 := by simp [cnt]
theorem Sys.more {w : World} {S room K : Nat} {B M : Nat → Nat} {b : Nat → AB} (h : Sys w S room K B M b) :
    Sys ((w.alloc (.map #[] 0)).alloc (.cells #[Pq S, .int .i64 0, .map (some w.heap.size)] 219)) S room (K + 1) (updF B K (w.heap.size + 1)) (updF M K w.heap.size) (updF b K AB.empty) := by
  have hb1 := below_one w (.map #[] 0)
  have hb2 := below_one (w.alloc (.map #[] 0)) (.cells #[Pq S, .int .i64 0, .map (some w.heap.size)] 219)
  have hs1 : (w.alloc (.map #[] 0)).heap.size = w.heap.size + 1 := by simp
  have hb := below_step hb1 (hb2.mono hb1.size)
  have h' := h.below hb
  have ht : tot (K + 1) (updF b K AB.empty) = tot K b := by
    show tot K (updF b K AB.empty) + (updF b K AB.empty K).n = tot K b
    rw [updF_same, tot_congr (b := updF b K AB.empty) (b' := b) (fun j hj => updF_other (by omega))]
    show tot K b + cnt 4096 (fun _ => false) = tot K b
    rw [cnt_none]
    exact Nat.add_zero _
  have hltB := fun k hk => (h.bod k hk).ltB
  have hltM := fun k hk => (h.bod k hk).ltM
  have hltS := h.ltS
  refine ⟨by rw [ht]; exact h'.s, by rw [ht]; exact h.le, h.room, fun k hk => ?_, fun k hk => ?_, fun j k hj hk => ?_⟩
  · by_cases e : k = K
    · subst e
      rw [updF_same, updF_same, updF_same]
      refine Bod.of (N := 0) ⟨?_, ?_, ?_, ?_⟩ ((MapAt.made w).of_block (hb2.block _ (by simp))) ⟨Nat.zero_le _, (fun _ h => nomatch h), fun _ _ => rfl⟩
      all_goals rw [← hs1]
      all_goals simp
      rfl
    · rw [updF_other e, updF_other e, updF_other e]; exact h'.bod k (by omega)
  · by_cases e : k = K
    · subst e; rw [updF_same, updF_same]; omega
    · rw [updF_other e, updF_other e]; exact h.sB k (by omega)
  · by_cases e1 : j = K <;> by_cases e2 : k = K
    · subst e1; subst e2; rw [updF_same, updF_same]; exact ⟨by omega, fun h => absurd rfl h⟩
    · subst e1; rw [updF_same, updF_same, updF_other e2, updF_other e2]
      have := hltB k (by omega); have := hltM k (by omega)
      omega
    · subst e2; rw [updF_same, updF_same, updF_other e1, updF_other e1]
      have := hltB j (by omega); have := hltM j (by omega)
      omega
    · rw [updF_other e1, updF_other e2, updF_other e1, updF_other e2]; exact h.sep j k (by omega) (by omega)

theorem FP_more {S K p q : Nat} {B M : Nat → Nat} : ∀ x, FP S (K + 1) (updF B K p) (updF M K q) x → FP S K B M x ∨ x = p ∨ x = q := by
  rintro x (h | ⟨k, hk, h⟩)
  · exact Or.inl (Or.inl h)
  · by_cases e : k = K
    · subst e; rw [updF_same, updF_same] at h; exact Or.inr h
    · rw [updF_other e, updF_other e] at h; exact Or.inl (Or.inr ⟨k, by omega, h⟩)

def SW (w : World) (S room K : Nat) (B M : Nat → Nat) (b : Nat → AB) (k : Nat) (off : Int) (len : Nat) (f : Nat → UInt8) (e : Ending) (w' : World) : Prop :=
  ∃ (p : Nat) (err : Int), e = .returned (.tuple #[.int .i64 (p : Int), .int .i64 err]) ∧ WR (b k) (tot K b) room off len p err ∧ Sys w' S room K B M (updF b k (wr (b k) off p f)) ∧ Only (FP S K B M) w w'
set_option maxRecDepth 100000 in
theorem sys_write {w : World} {S room K : Nat} {B M : Nat → Nat} {b : Nat → AB} (h : Sys w S room K B M b) {k : Nat} (hk : k < K) (off : Int) (A : Option Addr) (len dc : Nat) (f : Nat → UInt8) (hA : BytesIn w (FP S K B M) A len f) (hlc : len ≤ dc) (hdc : dc ≤ maxLen) :
    Calls Tryz.prog 92 #[Pq S, Pq (B k), .int .i64 off, .slice A len dc] w (SW w S room K B M b k off len f) := by
  refine (write_any S (B k) (M k) room (tot K b) len dc (b k) A off f w (h.bod k hk) h.s (tot_le hk) h.le h.room (h.sB k hk).1 (h.sB k hk).2 (h.sep k k hk hk).1
    (fun i hi => by obtain ⟨x, o, e, h1, h2, h3⟩ := hA i hi; exact ⟨x, o, e, fun hf => h1 (fp_FP hk x hf), h2, h3⟩) hlc hdc).mono ?_
  rintro e w' ⟨p, err, he, hw, hle, hb⟩
  have := h.step hk hb hle
  exact ⟨p, err, he, hw, this.1, this.2⟩
theorem cut_n (b : AB) (off : Int) : (cut b off).n ≤ b.n := by
  unfold cut
  split
  · exact cnt_le fun k hk => by unfold cutB at hk; simp only [Bool.and_eq_true] at hk; exact hk.1
  · exact Nat.le_refl _
set_option maxRecDepth 100000 in
theorem sys_cut {w : World} {S room K : Nat} {B M : Nat → Nat} {b : Nat → AB} (h : Sys w S room K B M b) {k : Nat} (hk : k < K) (off : Int) :
    Calls Tryz.prog 189 #[Pq S, Pq (B k), .int .i64 off] w (fun e w' => e = .returned (.int .i64 (cutR off)) ∧ Sys w' S room K B M (updF b k (cut (b k) off)) ∧ Only (FP S K B M) w w') := by
  have hn := cut_n (b k) off
  refine (cut_any S (B k) (M k) room (tot K b) (b k) off w (h.bod k hk) h.s (tot_le hk) (Nat.le_trans h.le h.room) (h.sB k hk).1 (h.sB k hk).2 (h.sep k k hk hk).1).mono ?_
  rintro e w' ⟨he, hb⟩
  have := h.step hk hb (by have := h.le; omega)
  exact ⟨he, this.1, this.2⟩
set_option maxRecDepth 100000 in
theorem sys_free {w : World} {S room K : Nat} {B M : Nat → Nat} {b : Nat → AB} (h : Sys w S room K B M b) {k : Nat} (hk : k < K) :
    Calls Tryz.prog 176 #[Pq S, Pq (B k)] w (fun e w' => e = .returned (.tuple #[]) ∧ Sys w' S room K B M (updF b k (cut (b k) 0)) ∧ Only (FP S K B M) w w') := by
  have hn := cut_n (b k) 0
  refine (free_any S (B k) (M k) room (tot K b) (b k) w (h.bod k hk) h.s (tot_le hk) (Nat.le_trans h.le h.room) (h.sB k hk).1 (h.sB k hk).2 (h.sep k k hk hk).1).mono ?_
  rintro e w' ⟨he, hb⟩
  have := h.step hk hb (by have := h.le; omega)
  exact ⟨he, this.1, this.2⟩
set_option maxRecDepth 100000 in
theorem sys_read {w : World} {S room K : Nat} {B M : Nat → Nat} {b : Nat → AB} (h : Sys w S room K B M b) {k : Nat} (hk : k < K) (off n : Int) : Calls Tryz.prog 124 #[Pq S, Pq (B k), .int .i64 off, .int .i64 n] w (ReadE w (b k) off n) :=
  read_any S (B k) (M k) (b k) off n w (h.bod k hk)
set_option maxRecDepth 100000 in
theorem sys_size {w : World} {S room K : Nat} {B M : Nat → Nat} {b : Nat → AB} (h : Sys w S room K B M b) {k : Nat} (hk : k < K) : Calls Tryz.prog 166 #[Pq (B k)] w (fun e w' => e = .returned (.int .i64 ((b k).size : Int)) ∧ w = w') :=
  size_any S (B k) (M k) _ w (h.bod k hk).c
set_option maxRecDepth 100000 in
theorem sys_used {w : World} {S room K : Nat} {B M : Nat → Nat} {b : Nat → AB} (h : Sys w S room K B M b) : Calls Tryz.prog 104 #[Pq S] w (fun e w' => e = .returned (.int .i64 ((tot K b : Nat) : Int)) ∧ w = w') := used_any S room _ w h.s
set_option maxRecDepth 100000 in
theorem sys_body {w : World} {S room K : Nat} {B M : Nat → Nat} {b : Nat → AB} (h : Sys w S room K B M b) :
    Calls Tryz.prog 126 #[Pq S] w (fun e w' => e = .returned (Pq (w.heap.size + 1)) ∧ Sys w' S room (K + 1) (updF B K (w.heap.size + 1)) (updF M K w.heap.size) (updF b K AB.empty) ∧ Below w.heap.size w w') := by
  refine (body_any S w).mono ?_
  rintro e w' ⟨he, rfl⟩
  exact ⟨he, h.more, below_step (below_one _ _) ((below_one _ _).mono (by simp))⟩

/-- The text of n bytes. -/
def strF (n : Nat) (f : Nat → UInt8) : ByteArray := ⟨((List.range n).map f).toArray⟩
theorem strF_eq {n m : Nat} {f g : Nat → UInt8} : strF n f = strF m g ↔ n = m ∧ ∀ i, i < n → f i = g i := by
  unfold strF
  constructor
  · intro h
    injection h with h
    have h1 := congrArg Array.toList h
    simp only at h1
    have hl := congrArg List.length h1
    simp at hl
    subst hl
    refine ⟨rfl, fun i hi => ?_⟩
    have h2 := congrArg (fun l => l[i]?) h1
    simpa [hi] using h2
  · rintro ⟨rfl, h⟩
    congr 2
    exact List.map_congr_left fun i hi => h i (by simpa using hi)
set_option maxRecDepth 100000 in
theorem conv_cells {w : World} {a : Addr} {n c : Nat} {f : Nat → UInt8} (h : ∀ i, i < n → w.cell? (a.add i) = some (U8 (f i))) : (convert 53 9 (.slice (some a) n c)).run Tryz.prog w = .ok (.string (strF n f)) w := by
  have := run_convert_bytes_back (P := Tryz.prog) w 53 9 5 a c ((List.range n).map f) Tryz.underlying53 Tryz.underlying5 Tryz.underlying9 (fun j hj => by
    have hj' : j < n := by simpa using hj
    rw [h j hj']
    simp [U8])
  unfold strF
  simpa using this
set_option maxRecDepth 100000 in
theorem Row.conv {w : World} {lo n c : Nat} {A : Option Addr} {f : Nat → UInt8} (h : Row w lo A n c f) : (convert 53 9 (.slice A n c)).run Tryz.prog w = .ok (.string (strF n f)) w := by
  rcases h.2 with ⟨rfl, rfl⟩ | ⟨g, _, rfl, hg⟩
  · exact Lib.run_convert_nil_bytes w 53 9 5 c Tryz.underlying53 Tryz.underlying5 Tryz.underlying9
  · refine conv_cells fun i hi => ?_
    rw [add0, Nat.zero_add, cell_of_row _ _ i _ 5 (0, 0) hg]
    have := rowF_get f hi
    simpa using this
set_option maxRecDepth 100000 in
theorem BytesIn.conv {w : World} {F : Nat → Prop} {n c : Nat} {A : Option Addr} {f : Nat → UInt8} (h : BytesIn w F A n f) : (convert 53 9 (.slice A n c)).run Tryz.prog w = .ok (.string (strF n f)) w := by
  by_cases h0 : n = 0
  · subst h0
    cases A with
    | none => exact Lib.run_convert_nil_bytes w 53 9 5 c Tryz.underlying53 Tryz.underlying5 Tryz.underlying9
    | some a => exact conv_cells fun i hi => absurd hi (Nat.not_lt_zero _)
  · obtain ⟨b, off, rfl, _⟩ := h 0 (by omega)
    refine conv_cells fun i hi => ?_
    obtain ⟨b', off', e, _, _, h3⟩ := h i hi
    injection e with e
    injection e with e1 e2
    subst e1; subst e2
    rw [add0]; exact h3
end Go.Proofs.YtnnaoldpacbagaaGreat.bl
end
