/- A directory has at most 4000 names: each inode has at most twenty links. The numbers that are free, as a list in order. A branch in memory: the inodes by their numbers, the store, the queue of free numbers, each in blocks of its own. A branch in memory: one step of a directory, a body, a field of an inode, the queue. The branch's functions that look: an inode by its number, the check of a directory, a name's inode. The branch's functions that look: names, what is to be made, what has a name. -/
import Derived.Test.YtnnaoldpacbagaaGreatZ12
import Derived.Test.YtnnaoldpacbagaaGreatZ10
import Derived.Test.YtnnaoldpacbagaaGreatZ05
import Derived.Test.YtnnaoldpacbagaaGreatZ08
import Derived.OwnWalk
import Derived.LaidEqlPtr
section
namespace Go.Proofs.YtnnaoldpacbagaaGreat.br
open Go.RowKit
open Go.Proofs.YtnnaoldpacbagaaGreat.dn (En lget lset ldel nerr dotB Sorted)
set_option linter.unusedVariables false

theorem sumF_add (f g : Nat → Nat) : ∀ n, sumF (fun k => f k + g k) n = sumF f n + sumF g n
  | 0 => rfl
  | n + 1 => by simp only [sumF]; rw [sumF_add f g n]; omega
theorem sumF_ite {j : Nat} : ∀ {n : Nat}, 1 ≤ j → j ≤ n → sumF (fun k => if j = k then 1 else 0) n = 1
  | 0, h1, h2 => by omega
  | n + 1, h1, h2 => by
    simp only [sumF]
    by_cases e : j = n + 1
    · subst e
      rw [sumF_zero fun k _ hk => if_neg (by omega)]; simp
    · rw [sumF_ite h1 (by omega), if_neg e]
theorem len_names : ∀ {L : List En}, (∀ e ∈ L, 1 ≤ e.2 ∧ e.2 ≤ 200) → L.length = sumF (fun k => names (k : Int) L) 200
  | [], _ => (sumF_zero fun _ _ _ => rfl).symm
  | x :: l, h => by
    have h1 := h x (by simp)
    have e : sumF (fun k => names (k : Int) (x :: l)) 200 = sumF (fun k => (if x.2.toNat = k then 1 else 0) + names (k : Int) l) 200 :=
      sumF_congr fun k _ _ => by
        rw [names_cons]
        by_cases e : x.2 = (k : Int)
        · rw [if_pos e, if_pos (by omega)]
        · rw [if_neg e, if_neg (by omega)]
    rw [e, sumF_add, sumF_ite (by omega) (by omega), ← len_names fun e he => h e (by simp [he]), List.length_cons]; omega
theorem sumF_bound {f : Nat → Nat} {m : Nat} : ∀ {n : Nat}, (∀ k, 1 ≤ k → k ≤ n → f k ≤ m) → sumF f n ≤ n * m
  | 0, _ => Nat.zero_le _
  | n + 1, h => by
    simp only [sumF]
    have := sumF_bound (f := f) (m := m) (n := n) fun k h1 h2 => h k h1 (by omega)
    have := h (n + 1) (by omega) (Nat.le_refl _)
    rw [Nat.add_mul]; omega
theorem Inv.dirLen {S : BS} {room : Nat} (h : Inv S room) (D : Nat) : (S.ino D).dir.length ≤ 4000 := by
  by_cases hD : (S.ino D).kind = 2
  · have hn := h.num (k := D) (by rw [hD]; decide)
    rw [len_names fun e he => (h.good D e he).2.2]
    refine sumF_bound (m := 20) (n := 200) fun k h1 h2 => ?_
    have hl := h.links k h1 h2
    have ht := h.twenty k
    have hs : names (k : Int) (S.ino D).dir ≤ S.names (k : Int) 200 := sumF_le (f := fun j => names (k : Int) (S.ino j).dir) hn.1 hn.2
    split at hl <;> omega
  · rw [h.noDir D hD]; exact Nat.zero_le _
theorem Good.z0 {S : BS} {room : Nat} (h : Good S room) : (S.ino 0).kind = 0 := by rw [h.1.out 0 (.inl rfl)]; rfl
end Go.Proofs.YtnnaoldpacbagaaGreat.br
end
section
namespace Go.Proofs.YtnnaoldpacbagaaGreat.cb
open Go.RowKit
open Go.Proofs.YtnnaoldpacbagaaGreat.qu (KN ins)
open Go.Proofs.YtnnaoldpacbagaaGreat.br
set_option linter.unusedVariables false

abbrev kk (j : Nat) : KN := ((j : Int), (j : Int))
def fl (z : Nat → Bool) : Nat → Nat → List KN
  | _, 0 => []
  | k, n + 1 => if z k = true then kk k :: fl z (k + 1) n else fl z (k + 1) n
def setB (z : Nat → Bool) (i : Nat) (b : Bool) : Nat → Bool := fun j => if j = i then b else z j
theorem fl_congr {z z' : Nat → Bool} : ∀ {n k : Nat}, (∀ j, k ≤ j → j < k + n → z j = z' j) → fl z k n = fl z' k n
  | 0, _, _ => rfl
  | n + 1, k, h => by
    unfold fl
    rw [h k (Nat.le_refl _) (by omega), fl_congr fun j h1 h2 => h j (by omega) (by omega)]
theorem fl_mem {z : Nat → Bool} : ∀ {n k : Nat} {x : KN}, x ∈ fl z k n → ∃ j, x = kk j ∧ k ≤ j ∧ j < k + n ∧ z j = true
  | 0, _, _, h => by cases h
  | n + 1, k, x, h => by
    unfold fl at h
    split at h
    · rcases List.mem_cons.1 h with rfl | h
      · exact ⟨k, rfl, Nat.le_refl _, by omega, by assumption⟩
      · obtain ⟨j, e, h1, h2, h3⟩ := fl_mem h; exact ⟨j, e, by omega, by omega, h3⟩
    · obtain ⟨j, e, h1, h2, h3⟩ := fl_mem h; exact ⟨j, e, by omega, by omega, h3⟩
theorem fl_nil {z : Nat → Bool} : ∀ {n k : Nat}, fl z k n = [] → ∀ j, k ≤ j → j < k + n → z j = false
  | 0, _, _, j, h1, h2 => by omega
  | n + 1, k, h, j, h1, h2 => by
    unfold fl at h
    split at h
    · cases h
    · by_cases e : j = k
      · subst e; simp_all
      · exact fl_nil h j (by omega) (by omega)
theorem fl_cons {z : Nat → Bool} : ∀ {n k : Nat} {x : KN} {r : List KN}, fl z k n = x :: r → ∃ j, x = kk j ∧ k ≤ j ∧ j < k + n ∧ z j = true ∧ (∀ i, k ≤ i → i < j → z i = false) ∧ r = fl (setB z j false) k n
  | 0, _, _, _, h => by cases h
  | n + 1, k, x, r, h => by
    unfold fl at h
    split at h
    · rename_i hz
      injection h with h1 h2
      refine ⟨k, h1.symm, Nat.le_refl _, by omega, hz, fun i _ _ => by omega, ?_⟩
      subst h2
      have e : setB z k false k = false := by simp [setB]
      conv => rhs; unfold fl
      rw [e, if_neg (by decide)]
      exact fl_congr fun j h1 h2 => by simp [setB]; omega
    · rename_i hz
      obtain ⟨j, h1, h2, h3, h4, h5, h6⟩ := fl_cons h
      refine ⟨j, h1, by omega, by omega, h4, fun i h7 h8 => ?_, ?_⟩
      · by_cases e : i = k
        · subst e; simpa using hz
        · exact h5 i (by omega) h8
      · have e : setB z j false k = z k := by simp [setB]; omega
        conv => rhs; unfold fl
        rw [e, if_neg hz]; exact h6
theorem fl_ins {z : Nat → Bool} : ∀ {n k i : Nat}, k ≤ i → i < k + n → z i = false → ins (kk i) (fl z k n) = fl (setB z i true) k n
  | 0, _, _, _, _, _ => by omega
  | n + 1, k, i, h1, h2, h3 => by
    by_cases e : i = k
    · subst e
      have e1 : setB z i true i = true := by simp [setB]
      conv => rhs; unfold fl
      conv => lhs; unfold fl
      rw [e1, if_neg (by rw [h3]; decide), if_pos rfl]
      have e2 : fl (setB z i true) (i + 1) n = fl z (i + 1) n := fl_congr fun j h1 h2 => by simp [setB]; omega
      rw [e2]
      cases hl : fl z (i + 1) n with
      | nil => rfl
      | cons x r =>
        obtain ⟨j, hj, h4, _⟩ := fl_cons hl
        subst hj
        unfold ins
        rw [if_pos (by show (i : Int) < (j : Int); omega)]
    · have e1 : setB z i true k = z k := by simp [setB]; omega
      conv => rhs; unfold fl
      conv => lhs; unfold fl
      rw [e1]
      have ih := fl_ins (z := z) (n := n) (k := k + 1) (i := i) (by omega) (by omega) h3
      split
      · rw [← ih]
        conv => lhs; unfold ins
        rw [if_neg (by show ¬ (i : Int) < (k : Int); omega)]
      · exact ih
/-- The free numbers of a branch. -/
def zf (S : BS) (k : Nat) : Bool := decide ((S.ino k).kind = 0)
def freeL (S : BS) : List KN := fl (zf S) 1 200
theorem free_nil {S : BS} : ∀ {n k : Nat}, fl (zf S) k n = [] → S.free k n = k + n
  | 0, _, _ => rfl
  | n + 1, k, h => by
    unfold fl at h
    split at h
    · cases h
    · rename_i hz
      unfold BS.free
      rw [if_neg (by simpa [zf] using hz), free_nil h]; omega
theorem free_cons {S : BS} : ∀ {n k : Nat} {x : KN} {r : List KN}, fl (zf S) k n = x :: r → x = kk (S.free k n) ∧ k ≤ S.free k n ∧ S.free k n < k + n ∧ r = fl (setB (zf S) (S.free k n) false) k n := by
  intro n k x r h
  obtain ⟨j, h1, h2, h3, h4, h5, h6⟩ := fl_cons h
  have hs := free_spec S n k
  have e : S.free k n = j := by
    rcases Nat.lt_trichotomy (S.free k n) j with h | h | h
    · have := hs.2.2.1 (by omega)
      have h7 := h5 _ hs.1 h
      simp [zf] at h7; exact absurd this h7
    · exact h
    · have := hs.2.2.2 j h2 h
      simp [zf] at h4; exact absurd h4 this
  rw [e]; exact ⟨h1, h2, h3, h6⟩
theorem freeL_nil {S : BS} (h : freeL S = []) : S.free 1 200 = 201 := free_nil h
theorem freeL_cons {S : BS} {x : KN} {r : List KN} (h : freeL S = x :: r) : x = kk (S.free 1 200) ∧ 1 ≤ S.free 1 200 ∧ S.free 1 200 ≤ 200 ∧ r = fl (setB (zf S) (S.free 1 200) false) 1 200 := by
  obtain ⟨h1, h2, h3, h4⟩ := free_cons h; exact ⟨h1, h2, by omega, h4⟩
theorem freeL_of {S : BS} {z : Nat → Bool} (h : ∀ j, 1 ≤ j → j ≤ 200 → z j = zf S j) : fl z 1 200 = freeL S := fl_congr fun j h1 h2 => h j h1 (by omega)
theorem fl_snoc {z : Nat → Bool} : ∀ {n k : Nat}, fl z k (n + 1) = fl z k n ++ if z (k + n) = true then [kk (k + n)] else []
  | 0, k => by simp [fl]
  | n + 1, k => by
    conv => lhs; unfold fl
    rw [fl_snoc (n := n) (k := k + 1)]
    conv => rhs; unfold fl
    rw [show k + 1 + n = k + (n + 1) by omega]
    by_cases h : z k = true
    · rw [if_pos h, if_pos h]; rfl
    · rw [if_neg h, if_neg h]
theorem fl_count (S : BS) : ∀ n, (fl (zf S) 1 n).length + S.count n = n
  | 0 => rfl
  | n + 1 => by
    rw [fl_snoc, List.length_append]
    have ih := fl_count S n
    have e : S.count (n + 1) = S.count n + if (S.ino (n + 1)).kind ≠ 0 then 1 else 0 := rfl
    rw [e, show 1 + n = n + 1 by omega]
    by_cases h : (S.ino (n + 1)).kind = 0
    · rw [if_pos (by simp [zf, h]), if_neg (by simp [h])]; simp; omega
    · rw [if_neg (by simp [zf, h]), if_pos h]; simp; omega
theorem freeL_length (S : BS) : (freeL S).length + S.count 200 = 200 := fl_count S 200
theorem freeL_le (S : BS) : (freeL S).length ≤ 200 := by have := freeL_length S; omega
/-- A number goes out of use, or comes into it. -/
theorem freeL_push {S S' : BS} {i : Nat} (h1 : 1 ≤ i) (h2 : i ≤ 200) (hz : (S.ino i).kind ≠ 0) (hz' : (S'.ino i).kind = 0) (h : ∀ k, k ≠ i → (S'.ino k).kind = (S.ino k).kind) : ins (kk i) (freeL S) = freeL S' := by
  unfold freeL
  rw [fl_ins h1 (by omega) (by simp [zf, hz])]
  exact freeL_of fun j _ _ => by
    unfold setB zf
    by_cases e : j = i
    · subst e; simp [hz']
    · rw [if_neg e, h j e]
theorem freeL_pop {S S' : BS} {x : KN} {r : List KN} (hl : freeL S = x :: r) (hz' : (S'.ino (S.free 1 200)).kind ≠ 0) (h : ∀ k, k ≠ S.free 1 200 → (S'.ino k).kind = (S.ino k).kind) : r = freeL S' := by
  obtain ⟨_, _, _, h4⟩ := freeL_cons hl
  rw [h4]
  exact freeL_of fun j _ _ => by
    unfold setB zf
    by_cases e : j = S.free 1 200
    · subst e; simp [hz']
    · rw [if_neg e, h j e]
theorem freeL_same {S S' : BS} (h : ∀ k, (S'.ino k).kind = (S.ino k).kind) : freeL S' = freeL S := freeL_of fun j _ _ => by unfold zf; rw [h j]
end Go.Proofs.YtnnaoldpacbagaaGreat.cb
end
section
namespace Go.Proofs.YtnnaoldpacbagaaGreat.cb
open Go.RowKit
open Go.Proofs.YtnnaoldpacbagaaGreat.qu (KN ins QL)
open Go.Proofs.YtnnaoldpacbagaaGreat.dn (Du En)
open Go.Proofs.YtnnaoldpacbagaaGreat.bl (AB Bod BodC StoC Only Pq)
open Go.Proofs.YtnnaoldpacbagaaGreat.br
set_option linter.unusedVariables false

/-- Where an inode's things lie. -/
structure Pl where
  nd : Nat
  bo : Nat
  bm : Nat
  di : Nat
  dr : Option Nat
  dc : Nat
def bpV (p : Pl) (x : Ino) : Value := if x.kind = 1 then Pq p.bo else .pointer none
def dpV (p : Pl) (x : Ino) : Value := if x.kind = 2 then Pq p.di else .pointer none
/-- What lies at an inode's number. -/
def ptV (nd : Nat) (x : Ino) : Value := if x.kind = 0 then .pointer none else Pq nd
theorem ptV_no {nd : Nat} {x : Ino} (h : x.kind = 0) : ptV nd x = .pointer none := if_pos h
theorem ptV_yes {nd : Nat} {x : Ino} (h : x.kind ≠ 0) : ptV nd x = Pq nd := if_neg h
/-- An inode in memory. -/
structure InoC (w : World) (st lo : Nat) (p : Pl) (x : Ino) : Prop where
  c0 : w.cell? ⟨p.nd, 0, none⟩ = some (.int .i64 x.kind)
  c1 : w.cell? ⟨p.nd, 1, none⟩ = some (.int .i64 x.links)
  c2 : w.cell? ⟨p.nd, 2, none⟩ = some (.int .i64 x.holds)
  c3 : w.cell? ⟨p.nd, 3, none⟩ = some (.int .i64 x.marks)
  c4 : w.cell? ⟨p.nd, 4, none⟩ = some (bpV p x)
  c5 : w.cell? ⟨p.nd, 5, none⟩ = some (dpV p x)
  c6 : w.cell? ⟨p.nd, 6, none⟩ = some (.int .i64 x.parent)
  c7 : w.cell? ⟨p.nd, 7, none⟩ = some (.string x.target)
  f : ∀ j, w.frozen? ⟨p.nd, j, none⟩ = false
  bod : x.kind = 1 → Bod w st p.bo p.bm x.body
  dir : x.kind = 2 → Du w p.di lo p.dr p.dc x.dir
theorem InoC.keep {w w' : World} {st lo : Nat} {p : Pl} {x : Ino} (h : InoC w st lo p x) (hn : w'.heap[p.nd]? = w.heap[p.nd]?) (hb : x.kind = 1 → w'.heap[p.bo]? = w.heap[p.bo]? ∧ w'.heap[p.bm]? = w.heap[p.bm]?)
    (hd : x.kind = 2 → w'.heap[p.di]? = w.heap[p.di]? ∧ ∀ G, p.dr = some G → w'.heap[G]? = w.heap[G]?) : InoC w' st lo p x :=
  have e : ∀ j, w'.cell? ⟨p.nd, j, none⟩ = w.cell? ⟨p.nd, j, none⟩ := fun j => World.cell?_of_block (a := ⟨p.nd, j, none⟩) hn
  ⟨(e 0).trans h.c0, (e 1).trans h.c1, (e 2).trans h.c2, (e 3).trans h.c3, (e 4).trans h.c4, (e 5).trans h.c5, (e 6).trans h.c6, (e 7).trans h.c7, fun j => (World.frozen?_of_block (a := ⟨p.nd, j, none⟩) hn).trans (h.f j),
    fun k => (h.bod k).keep (hb k).1 (hb k).2, fun k => (h.dir k).of_blocks (hd k).1 (hd k).2⟩
theorem InoC.nlt {w : World} {st lo : Nat} {p : Pl} {x : Ino} (h : InoC w st lo p x) : p.nd < w.heap.size := World.block_lt_of_cell? w _ h.c0
theorem InoC.blt {w : World} {st lo : Nat} {p : Pl} {x : Ino} (h : InoC w st lo p x) (k : x.kind = 1) : p.bo < w.heap.size ∧ p.bm < w.heap.size := ⟨(h.bod k).ltB, (h.bod k).ltM⟩
theorem InoC.dlt {w : World} {st lo : Nat} {p : Pl} {x : Ino} (h : InoC w st lo p x) (k : x.kind = 2) : p.di < w.heap.size ∧ ∀ G, p.dr = some G → G < w.heap.size := ⟨(h.dir k).lt, fun G e => ((h.dir k).glt G e).1⟩
theorem InoC.below {w w' : World} {st lo : Nat} {p : Pl} {x : Ino} (h : InoC w st lo p x) (hb : Below w.heap.size w w') : InoC w' st lo p x :=
  h.keep (hb.block _ h.nlt) (fun k => ⟨hb.block _ (h.blt k).1, hb.block _ (h.blt k).2⟩) (fun k => ⟨hb.block _ (h.dlt k).1, fun G e => hb.block _ ((h.dlt k).2 G e)⟩)

/-- What is told of the blocks by their tags: 1 the branch, 2 the store, 3 the queue, 4 its row, 5 k + 5 .. the inode k's; 0: not its own. -/
structure TagI (tag : Nat → Nat) (k : Nat) (p : Pl) (x : Ino) : Prop where
  n : tag p.nd = 5 * k + 5
  b : x.kind = 1 → tag p.bo = 5 * k + 6 ∧ tag p.bm = 5 * k + 7
  d : x.kind = 2 → tag p.di = 5 * k + 8 ∧ ∀ G, p.dr = some G → tag G = 5 * k + 9
structure CB (w : World) (P lo st qb : Nat) (qo : Option Nat) (pl : Nat → Pl) (tag : Nat → Nat) (S : BS) (room : Nat) (L : List KN) (T : Nat) : Prop where
  c0 : w.cell? ⟨P, 0, none⟩ = some (Pq st)
  ci : ∀ k, k ≤ 200 → w.cell? ⟨P, 1 + k, none⟩ = some (ptV (pl k).nd (S.ino k))
  cq : w.cell? ⟨P, 202, none⟩ = some (Pq qb)
  cf : ∀ j, w.frozen? ⟨P, j, none⟩ = false
  sto : StoC w st room S.used
  q : QL w qb lo qo L T
  ino : ∀ k, k ≤ 200 → (S.ino k).kind ≠ 0 → InoC w st lo (pl k) (S.ino k)
  tP : tag P = 1
  tS : tag st = 2
  tQ : tag qb = 3
  tG : ∀ G, qo = some G → tag G = 4
  ti : ∀ k, k ≤ 200 → (S.ino k).kind ≠ 0 → TagI tag k (pl k) (S.ino k)
  lo : ∀ b, b < lo → tag b = 0
  hi : ∀ b, w.heap.size ≤ b → tag b = 0

section
variable {w w' : World} {P lo st qb room T : Nat} {qo : Option Nat} {pl : Nat → Pl} {tag : Nat → Nat} {S : BS} {L : List KN}
theorem CB.lt (h : CB w P lo st qb qo pl tag S room L T) {b : Nat} (hb : tag b ≠ 0) : b < w.heap.size := by
  rcases Nat.lt_or_ge b w.heap.size with h1 | h1
  · exact h1
  · exact absurd (h.hi b h1) hb
theorem CB.ge (h : CB w P lo st qb qo pl tag S room L T) {b : Nat} (hb : tag b ≠ 0) : lo ≤ b := by
  rcases Nat.lt_or_ge b lo with h1 | h1
  · exact absurd (h.lo b h1) hb
  · exact h1
theorem QL.keep {w w' : World} {Q lo T : Nat} {o : Option Nat} {L : List KN} (h : QL w Q lo o L T) (hQ : w'.heap[Q]? = w.heap[Q]?) (hG : ∀ G, o = some G → w'.heap[G]? = w.heap[G]?) : QL w' Q lo o L T := by
  obtain ⟨c, xs, h, r⟩ := h
  refine ⟨c, xs, ⟨(World.cell?_of_block hQ).trans h.q0, (World.cell?_of_block hQ).trans h.q1, (World.frozen?_of_block (a := ⟨Q, 0, none⟩) hQ).trans h.f0, (World.frozen?_of_block (a := ⟨Q, 1, none⟩) hQ).trans h.f1, ?_⟩, r⟩
  cases o with
  | none => exact h.row
  | some G => exact ⟨h.row.1, h.row.2.1, h.row.2.2.of_block (hG G rfl)⟩
theorem StoC.keep {w w' : World} {S room used : Nat} (h : StoC w S room used) (hS : w'.heap[S]? = w.heap[S]?) : StoC w' S room used :=
  ⟨(World.cell?_of_block (a := ⟨S, 0, none⟩) hS).trans h.c0, (World.cell?_of_block (a := ⟨S, 1, none⟩) hS).trans h.c1, (World.frozen?_of_block (a := ⟨S, 1, none⟩) hS).trans h.f1⟩
/-- Blocks that keep their tags and are as they were. -/
theorem CB.block (h : CB w P lo st qb qo pl tag S room L T) {F : Nat → Prop} (ho : Only F w w') {b : Nat} (hb : tag b ≠ 0) (hF : ¬ F b) : w'.heap[b]? = w.heap[b]? := ho.block b (h.lt hb) hF
/-- An inode's things turned, and the store: all else stays. -/
theorem CB.turn (h : CB w P lo st qb qo pl tag S room L T) {k : Nat} (hk : k ≤ 200) {F : Nat → Prop} (ho : Only F w w') (hF : ∀ b, F b → tag b = 0 ∨ tag b = 2 ∨ (5 * k + 5 ≤ tag b ∧ tag b ≤ 5 * k + 9))
    {p : Pl} {x : Ino} {u : Nat} (hkd : (S.ino k).kind ≠ 0) (hx0 : x.kind ≠ 0) (hp : p.nd = (pl k).nd) (hs : StoC w' st room u) (hx : InoC w' st lo p x) {tag' : Nat → Nat} (ht : TagI tag' k p x)
    (htag : ∀ b, b < w.heap.size → tag' b = tag b) (hhi : ∀ b, w'.heap.size ≤ b → tag' b = 0) :
    CB w' P lo st qb qo (fun j => if j = k then p else pl j) tag' ⟨upd S.ino k x, u⟩ room L T := by
  have ts : ∀ b, tag b ≠ 0 → tag' b = tag b := fun b hb => htag b (h.lt hb)
  have oth : ∀ b, tag b ≠ 0 → tag b ≠ 2 → ¬ (5 * k + 5 ≤ tag b ∧ tag b ≤ 5 * k + 9) → w'.heap[b]? = w.heap[b]? := fun b h1 h2 h3 => h.block ho h1 (fun hf => by rcases hF b hf with e | e | e <;> omega)
  have hP := oth P (by rw [h.tP]; decide) (by rw [h.tP]; decide) (by rw [h.tP]; omega)
  have eP : ∀ j, w'.cell? ⟨P, j, none⟩ = w.cell? ⟨P, j, none⟩ := fun j => World.cell?_of_block (a := ⟨P, j, none⟩) hP
  refine ⟨(eP 0).trans h.c0, fun j hj => ?_, (eP 202).trans h.cq, fun j => (World.frozen?_of_block (a := ⟨P, j, none⟩) hP).trans (h.cf j), hs, ?_, fun j hj hjk => ?_, ?_, ?_, ?_, ?_, fun j hj hjk => ?_, fun b hb => ?_, hhi⟩
  · rw [eP, h.ci j hj]
    dsimp only
    by_cases e : j = k
    · subst e; rw [upd_same, ptV_yes hkd, ptV_yes hx0, if_pos rfl, hp]
    · rw [upd_other _ _ e, if_neg e]
  · exact QL.keep h.q (oth qb (by rw [h.tQ]; decide) (by rw [h.tQ]; decide) (by rw [h.tQ]; omega)) fun G e => oth G (by rw [h.tG G e]; decide) (by rw [h.tG G e]; decide) (by rw [h.tG G e]; omega)
  · dsimp only at hjk ⊢
    by_cases e : j = k
    · subst e; rw [upd_same, if_pos rfl]; exact hx
    · rw [upd_other _ _ e] at hjk ⊢
      rw [if_neg e]
      have t := h.ti j hj hjk
      refine (h.ino j hj hjk).keep (oth _ (by rw [t.n]; omega) (by rw [t.n]; omega) (by rw [t.n]; omega)) (fun k1 => ?_) (fun k1 => ?_)
      · have b := t.b k1
        exact ⟨oth _ (by rw [b.1]; omega) (by rw [b.1]; omega) (by rw [b.1]; omega), oth _ (by rw [b.2]; omega) (by rw [b.2]; omega) (by rw [b.2]; omega)⟩
      · have d := t.d k1
        exact ⟨oth _ (by rw [d.1]; omega) (by rw [d.1]; omega) (by rw [d.1]; omega), fun G e => oth _ (by rw [d.2 G e]; omega) (by rw [d.2 G e]; omega) (by rw [d.2 G e]; omega)⟩
  · rw [ts P (by rw [h.tP]; decide), h.tP]
  · rw [ts st (by rw [h.tS]; decide), h.tS]
  · rw [ts qb (by rw [h.tQ]; decide), h.tQ]
  · intro G e; rw [ts G (by rw [h.tG G e]; decide), h.tG G e]
  · dsimp only at hjk ⊢
    by_cases e : j = k
    · subst e; rw [upd_same, if_pos rfl]; exact ht
    · rw [upd_other _ _ e] at hjk ⊢
      rw [if_neg e]
      have t := h.ti j hj hjk
      refine ⟨by rw [ts _ (by rw [t.n]; omega), t.n], fun k1 => ?_, fun k1 => ?_⟩
      · have b := t.b k1
        exact ⟨by rw [ts _ (by rw [b.1]; omega), b.1], by rw [ts _ (by rw [b.2]; omega), b.2]⟩
      · have d := t.d k1
        exact ⟨by rw [ts _ (by rw [d.1]; omega), d.1], fun G e => by rw [ts _ (by rw [d.2 G e]; omega), d.2 G e]⟩
  · rcases Nat.lt_or_ge b w.heap.size with h1 | h1
    · rw [htag b h1]; exact h.lo b hb
    · exact absurd (h.ge (b := P) (by rw [h.tP]; decide)) (by have := h.lt (b := P) (by rw [h.tP]; decide); omega)
/-- Nothing of the branch is turned. -/
theorem CB.only (h : CB w P lo st qb qo pl tag S room L T) {F : Nat → Prop} (ho : Only F w w') (hF : ∀ b, F b → tag b = 0) : CB w' P lo st qb qo pl tag S room L T := by
  have oth : ∀ b, tag b ≠ 0 → w'.heap[b]? = w.heap[b]? := fun b h1 => h.block ho h1 (fun hf => h1 (hF b hf))
  have hP := oth P (by rw [h.tP]; decide)
  have eP : ∀ j, w'.cell? ⟨P, j, none⟩ = w.cell? ⟨P, j, none⟩ := fun j => World.cell?_of_block (a := ⟨P, j, none⟩) hP
  refine ⟨(eP 0).trans h.c0, fun j hj => (eP _).trans (h.ci j hj), (eP 202).trans h.cq, fun j => (World.frozen?_of_block (a := ⟨P, j, none⟩) hP).trans (h.cf j), StoC.keep h.sto (oth st (by rw [h.tS]; decide)), QL.keep h.q (oth qb (by rw [h.tQ]; decide)) fun G e => oth G (by rw [h.tG G e]; decide),
    fun j hj hjk => ?_, h.tP, h.tS, h.tQ, h.tG, h.ti, h.lo, fun b hb => h.hi b (Nat.le_trans ho.size hb)⟩
  have t := h.ti j hj hjk
  exact (h.ino j hj hjk).keep (oth _ (by rw [t.n]; omega)) (fun k1 => ⟨oth _ (by rw [(t.b k1).1]; omega), oth _ (by rw [(t.b k1).2]; omega)⟩) (fun k1 => ⟨oth _ (by rw [(t.d k1).1]; omega), fun G e => oth _ (by rw [(t.d k1).2 G e]; omega)⟩)
theorem CB.below (h : CB w P lo st qb qo pl tag S room L T) (hb : Below w.heap.size w w') : CB w' P lo st qb qo pl tag S room L T :=
  h.only (F := fun _ => False) (Only.of_below hb) (fun _ h => h.elim)
/-- The queue turned. -/
theorem CB.queue (h : CB w P lo st qb qo pl tag S room L T) {qo' : Option Nat} {L' : List KN} {T' : Nat} (hq : QL w' qb lo qo' L' T') (ho : ∀ G, qo' = some G → qo = some G ∨ w.heap.size ≤ G) (hf : qu.Fr w w' qb qo) :
    ∃ tag', CB w' P lo st qb qo' pl tag' S room L' T' ∧ (∀ b, b < w.heap.size → tag' b = tag b) ∧ Only (fun b => tag b ≠ 0) w w' := by
  have hO : Only (fun b => tag b = 3 ∨ tag b = 4) w w' := ⟨hf.os, hf.tape, hf.output, hf.size, fun k hk hF => hf.block k hk (fun e => hF (.inl (by rw [e]; exact h.tQ))) (fun e => hF (.inr (h.tG k e)))⟩
  refine ⟨fun b => if qo' = some b then 4 else tag b, ?_, fun b hb => ?_, hO.mono fun b hb => by rcases hb with e | e <;> omega⟩
  · have oth : ∀ b, tag b ≠ 0 → tag b ≠ 3 → tag b ≠ 4 → w'.heap[b]? = w.heap[b]? := fun b h1 h2 h3 => h.block hO h1 (fun hf => by rcases hf with e | e <;> omega)
    have ts : ∀ b, tag b ≠ 0 → tag b ≠ 4 → (if qo' = some b then 4 else tag b) = tag b := fun b h1 h2 => by
      rw [if_neg]
      intro e
      rcases ho b e with e1 | e1
      · exact h2 (h.tG b e1)
      · have := h.lt h1; omega
    have hP := oth P (by rw [h.tP]; decide) (by rw [h.tP]; decide) (by rw [h.tP]; decide)
    have eP : ∀ j, w'.cell? ⟨P, j, none⟩ = w.cell? ⟨P, j, none⟩ := fun j => World.cell?_of_block (a := ⟨P, j, none⟩) hP
    refine ⟨(eP 0).trans h.c0, fun j hj => (eP _).trans (h.ci j hj), (eP 202).trans h.cq, fun j => (World.frozen?_of_block (a := ⟨P, j, none⟩) hP).trans (h.cf j), StoC.keep h.sto (oth st (by rw [h.tS]; decide) (by rw [h.tS]; decide) (by rw [h.tS]; decide)), hq,
      fun j hj hjk => ?_, ?_, ?_, ?_, fun G e => by rw [if_pos e], fun j hj hjk => ?_, fun b hb => ?_, fun b hb => ?_⟩
    · have t := h.ti j hj hjk
      exact (h.ino j hj hjk).keep (oth _ (by rw [t.n]; omega) (by rw [t.n]; omega) (by rw [t.n]; omega)) (fun k1 => ⟨oth _ (by rw [(t.b k1).1]; omega) (by rw [(t.b k1).1]; omega) (by rw [(t.b k1).1]; omega), oth _ (by rw [(t.b k1).2]; omega) (by rw [(t.b k1).2]; omega) (by rw [(t.b k1).2]; omega)⟩)
        (fun k1 => ⟨oth _ (by rw [(t.d k1).1]; omega) (by rw [(t.d k1).1]; omega) (by rw [(t.d k1).1]; omega), fun G e => oth _ (by rw [(t.d k1).2 G e]; omega) (by rw [(t.d k1).2 G e]; omega) (by rw [(t.d k1).2 G e]; omega)⟩)
    · rw [ts P (by rw [h.tP]; decide) (by rw [h.tP]; decide), h.tP]
    · rw [ts st (by rw [h.tS]; decide) (by rw [h.tS]; decide), h.tS]
    · rw [ts qb (by rw [h.tQ]; decide) (by rw [h.tQ]; decide), h.tQ]
    · have t := h.ti j hj hjk
      refine ⟨?_, fun k1 => ⟨?_, ?_⟩, fun k1 => ⟨?_, fun G e => ?_⟩⟩
      · rw [ts _ (by rw [t.n]; omega) (by rw [t.n]; omega), t.n]
      · rw [ts _ (by rw [(t.b k1).1]; omega) (by rw [(t.b k1).1]; omega), (t.b k1).1]
      · rw [ts _ (by rw [(t.b k1).2]; omega) (by rw [(t.b k1).2]; omega), (t.b k1).2]
      · rw [ts _ (by rw [(t.d k1).1]; omega) (by rw [(t.d k1).1]; omega), (t.d k1).1]
      · rw [ts _ (by rw [(t.d k1).2 G e]; omega) (by rw [(t.d k1).2 G e]; omega), (t.d k1).2 G e]
    · have hPlt := h.lt (b := P) (by rw [h.tP]; decide)
      have hPge := h.ge (b := P) (by rw [h.tP]; decide)
      rw [if_neg, h.lo b hb]
      intro e
      rcases ho b e with e1 | e1
      · have := h.lo b hb; rw [h.tG b e1] at this; cases this
      · omega
    · skip
      rw [if_neg, h.hi b (Nat.le_trans hf.size hb)]
      intro e
      exact absurd (QL.old hq b e).1 (by omega)
  · dsimp only
    by_cases e : qo' = some b
    · rw [if_pos e]
      rcases ho b e with e1 | e1
      · exact (h.tG b e1).symm
      · omega
    · rw [if_neg e]
/-- An inode goes. -/
theorem CB.gone (h : CB w P lo st qb qo pl tag S room L T) {k : Nat} (hk : k ≤ 200) : CB (w.setCell ⟨P, 1 + k, none⟩ (.pointer none)) P lo st qb qo pl tag ⟨upd S.ino k Ino.nil, S.used⟩ room L T := by
  have hO : Only (fun b => tag b = 1) w (w.setCell ⟨P, 1 + k, none⟩ (.pointer none)) := ⟨rfl, rfl, rfl, by simp [World.setCell], fun j hj hF => Below.heap_setCell _ _ _ _ (fun e => hF (by rw [e]; exact h.tP))⟩
  have oth : ∀ b, tag b ≠ 0 → tag b ≠ 1 → (w.setCell ⟨P, 1 + k, none⟩ (.pointer none)).heap[b]? = w.heap[b]? := fun b h1 h2 => h.block hO h1 h2
  have eP : ∀ j, j ≠ 1 + k → (w.setCell ⟨P, 1 + k, none⟩ (.pointer none)).cell? ⟨P, j, none⟩ = w.cell? ⟨P, j, none⟩ := fun j hj => World.cell?_setCell_other _ _ _ _ (fun e => hj (by injection e with _ e _; exact e.symm))
  refine ⟨(eP 0 (by omega)).trans h.c0, fun j hj => ?_, (eP 202 (by omega)).trans h.cq, fun j => by rw [World.frozen?_setCell]; exact h.cf j, StoC.keep h.sto (oth st (by rw [h.tS]; decide) (by rw [h.tS]; decide)), QL.keep h.q (oth qb (by rw [h.tQ]; decide) (by rw [h.tQ]; decide)) fun G e => oth G (by rw [h.tG G e]; decide) (by rw [h.tG G e]; decide),
    fun j hj hjk => ?_, h.tP, h.tS, h.tQ, h.tG, fun j hj hjk => ?_, h.lo, fun b hb => h.hi b (by simpa [World.setCell] using hb)⟩
  · by_cases e : j = k
    · subst e
      dsimp only
      rw [upd_same, ptV_no rfl]
      exact World.cell?_setCell_same' _ _ _ (by rw [h.ci j hj]; rfl)
    · rw [eP _ (by omega)]
      dsimp only
      rw [upd_other _ _ e]; exact h.ci j hj
  · dsimp only at hjk ⊢
    by_cases e : j = k
    · subst e; rw [upd_same] at hjk; exact absurd rfl hjk
    · rw [upd_other _ _ e] at hjk ⊢
      have t := h.ti j hj hjk
      exact (h.ino j hj hjk).keep (oth _ (by rw [t.n]; omega) (by rw [t.n]; omega)) (fun k1 => ⟨oth _ (by rw [(t.b k1).1]; omega) (by rw [(t.b k1).1]; omega), oth _ (by rw [(t.b k1).2]; omega) (by rw [(t.b k1).2]; omega)⟩)
        (fun k1 => ⟨oth _ (by rw [(t.d k1).1]; omega) (by rw [(t.d k1).1]; omega), fun G e => oth _ (by rw [(t.d k1).2 G e]; omega) (by rw [(t.d k1).2 G e]; omega)⟩)
  · dsimp only at hjk ⊢
    by_cases e : j = k
    · subst e; rw [upd_same] at hjk; exact absurd rfl hjk
    · rw [upd_other _ _ e] at hjk ⊢
      exact h.ti j hj hjk
/-- An inode is laid in its place: its blocks lie behind w0's. -/
theorem CB.born (h : CB w P lo st qb qo pl tag S room L T) {k : Nat} (hk : k ≤ 200) {p : Pl} {x : Ino} (hz : (S.ino k).kind = 0) (hx0 : x.kind ≠ 0) {w1 : World} (hb : Below w.heap.size w w1) (hx : InoC w1 st lo p x) (hn : w.heap.size ≤ p.nd)
    (hbo : x.kind = 1 → w.heap.size ≤ p.bo ∧ w.heap.size ≤ p.bm ∧ p.bo ≠ p.nd ∧ p.bm ≠ p.nd ∧ p.bo ≠ p.bm) (hdi : x.kind = 2 → w.heap.size ≤ p.di ∧ p.di ≠ p.nd ∧ p.dr = none) :
    ∃ tag', CB (w1.setCell ⟨P, 1 + k, none⟩ (Pq p.nd)) P lo st qb qo (fun j => if j = k then p else pl j) tag' ⟨upd S.ino k x, S.used⟩ room L T ∧ (∀ b, b < w.heap.size → tag' b = tag b) := by
  have hPlt := h.lt (b := P) (by rw [h.tP]; decide)
  have hPge := h.ge (b := P) (by rw [h.tP]; decide)
  have h1 := h.below hb
  have hO : Only (fun b => tag b = 1) w1 (w1.setCell ⟨P, 1 + k, none⟩ (Pq p.nd)) := ⟨rfl, rfl, rfl, by simp [World.setCell], fun j hj hF => Below.heap_setCell _ _ _ _ (fun e => hF (by rw [e]; exact h.tP))⟩
  have oth : ∀ b, tag b ≠ 0 → tag b ≠ 1 → (w1.setCell ⟨P, 1 + k, none⟩ (Pq p.nd)).heap[b]? = w1.heap[b]? := fun b h2 h3 => h1.block hO h2 h3
  have new : ∀ b, w.heap.size ≤ b → (w1.setCell ⟨P, 1 + k, none⟩ (Pq p.nd)).heap[b]? = w1.heap[b]? := fun b h2 => Below.heap_setCell _ _ _ _ (by show b ≠ P; omega)
  have eP : ∀ j, j ≠ 1 + k → (w1.setCell ⟨P, 1 + k, none⟩ (Pq p.nd)).cell? ⟨P, j, none⟩ = w1.cell? ⟨P, j, none⟩ := fun j hj => World.cell?_setCell_other _ _ _ _ (fun e => hj (by injection e with _ e _; exact e.symm))
  have hb1 := fun e => hx.blt e
  have hd1 := fun e => hx.dlt e
  have hn1 := hx.nlt
  let tg : Nat → Nat := fun b => if b = p.nd then 5 * k + 5 else if x.kind = 1 ∧ b = p.bo then 5 * k + 6 else if x.kind = 1 ∧ b = p.bm then 5 * k + 7 else if x.kind = 2 ∧ b = p.di then 5 * k + 8 else tag b
  have ts : ∀ b, b < w.heap.size → tg b = tag b := fun b h2 => by
    show (if _ then _ else _) = _
    rw [if_neg (by omega), if_neg (fun e => by have := hbo e.1; omega), if_neg (fun e => by have := hbo e.1; omega), if_neg (fun e => by have := hdi e.1; omega)]
  have tt : ∀ b, tag b ≠ 0 → tg b = tag b := fun b h2 => ts b (h.lt h2)
  refine ⟨tg, ⟨(eP 0 (by omega)).trans h1.c0, fun j hj => ?_, (eP 202 (by omega)).trans h1.cq, fun j => by rw [World.frozen?_setCell]; exact h1.cf j, StoC.keep h1.sto (oth st (by rw [h.tS]; decide) (by rw [h.tS]; decide)), QL.keep h1.q (oth qb (by rw [h.tQ]; decide) (by rw [h.tQ]; decide)) fun G e => oth G (by rw [h.tG G e]; decide) (by rw [h.tG G e]; decide),
    fun j hj hjk => ?_, by rw [tt P (by rw [h.tP]; decide), h.tP], by rw [tt st (by rw [h.tS]; decide), h.tS], by rw [tt qb (by rw [h.tQ]; decide), h.tQ], fun G e => by rw [tt G (by rw [h.tG G e]; decide), h.tG G e], fun j hj hjk => ?_, fun b hb' => by rw [ts b (by omega)]; exact h.lo b hb', fun b hb' => ?_⟩, ts⟩
  · by_cases e : j = k
    · subst e
      dsimp only
      rw [upd_same, ptV_yes hx0, if_pos rfl]
      exact World.cell?_setCell_same' _ _ _ (by rw [h1.ci j hj]; rfl)
    · rw [eP _ (by omega)]
      dsimp only
      rw [upd_other _ _ e, if_neg e]; exact h1.ci j hj
  · dsimp only at hjk ⊢
    by_cases e : j = k
    · subst e; rw [upd_same, if_pos rfl]
      exact hx.keep (new _ hn) (fun k1 => ⟨new _ (hbo k1).1, new _ (hbo k1).2.1⟩) (fun k1 => ⟨new _ (hdi k1).1, fun G e => by rw [(hdi k1).2.2] at e; cases e⟩)
    · rw [upd_other _ _ e] at hjk ⊢
      rw [if_neg e]
      have t := h.ti j hj hjk
      exact (h1.ino j hj hjk).keep (oth _ (by rw [t.n]; omega) (by rw [t.n]; omega)) (fun k1 => ⟨oth _ (by rw [(t.b k1).1]; omega) (by rw [(t.b k1).1]; omega), oth _ (by rw [(t.b k1).2]; omega) (by rw [(t.b k1).2]; omega)⟩)
        (fun k1 => ⟨oth _ (by rw [(t.d k1).1]; omega) (by rw [(t.d k1).1]; omega), fun G e => oth _ (by rw [(t.d k1).2 G e]; omega) (by rw [(t.d k1).2 G e]; omega)⟩)
  · dsimp only at hjk ⊢
    by_cases e : j = k
    · subst e; rw [upd_same, if_pos rfl]
      refine ⟨if_pos rfl, fun k1 => ?_, fun k1 => ⟨?_, fun G e => by rw [(hdi k1).2.2] at e; cases e⟩⟩
      · have := hbo k1
        constructor
        · show (if _ then _ else _) = _
          rw [if_neg (by omega), if_pos ⟨k1, rfl⟩]
        · show (if _ then _ else _) = _
          rw [if_neg (by omega), if_neg (by omega), if_pos ⟨k1, rfl⟩]
      · have := hdi k1
        show (if _ then _ else _) = _
        rw [if_neg (by omega), if_neg (by omega), if_neg (by omega), if_pos ⟨k1, rfl⟩]
    · rw [upd_other _ _ e] at hjk ⊢
      rw [if_neg e]
      have t := h.ti j hj hjk
      exact ⟨by rw [tt _ (by rw [t.n]; omega), t.n], fun k1 => ⟨by rw [tt _ (by rw [(t.b k1).1]; omega), (t.b k1).1], by rw [tt _ (by rw [(t.b k1).2]; omega), (t.b k1).2]⟩,
        fun k1 => ⟨by rw [tt _ (by rw [(t.d k1).1]; omega), (t.d k1).1], fun G e => by rw [tt _ (by rw [(t.d k1).2 G e]; omega), (t.d k1).2 G e]⟩⟩
  · have hs : (w1.setCell ⟨P, 1 + k, none⟩ (Pq p.nd)).heap.size = w1.heap.size := by simp [World.setCell]
    rw [hs] at hb'
    show (if _ then _ else _) = _
    rw [if_neg (by omega), if_neg (fun e => by have := hb1 e.1; omega), if_neg (fun e => by have := hb1 e.1; omega), if_neg (fun e => by have := hd1 e.1; omega)]
    exact h.hi b (Nat.le_trans hb.size hb')
end
end Go.Proofs.YtnnaoldpacbagaaGreat.cb
end
section
namespace Go.Proofs.YtnnaoldpacbagaaGreat.cb
open Go.RowKit
open Go.Proofs.YtnnaoldpacbagaaGreat.qu (KN ins QL)
open Go.Proofs.YtnnaoldpacbagaaGreat.dn (Du En lget lset ldel getV nerr dotB Sorted)
open Go.Proofs.YtnnaoldpacbagaaGreat.bl (AB Bod BodC StoC Only Pq)
open Go.Proofs.YtnnaoldpacbagaaGreat.br
set_option linter.unusedVariables false

/-- Behind a step: the tags of what there was stay, and what has none is as it was. -/
structure Stp (w w' : World) (tag tag' : Nat → Nat) : Prop where
  tg : ∀ b, b < w.heap.size → tag' b = tag b
  o : Only (fun b => tag b ≠ 0) w w'
theorem Stp.refl (w : World) (tag : Nat → Nat) : Stp w w tag tag := ⟨fun _ _ => rfl, Only.refl _ _⟩
theorem Stp.trans {w w1 w2 : World} {t t1 t2 : Nat → Nat} (a : Stp w w1 t t1) (b : Stp w1 w2 t1 t2) : Stp w w2 t t2 :=
  ⟨fun k hk => (b.tg k (Nat.lt_of_lt_of_le hk a.o.size)).trans (a.tg k hk),
    ⟨b.o.os.trans a.o.os, b.o.tape.trans a.o.tape, b.o.output.trans a.o.output, Nat.le_trans a.o.size b.o.size, fun k hk hF => (b.o.block k (Nat.lt_of_lt_of_le hk a.o.size) (by rw [a.tg k hk]; exact hF)).trans (a.o.block k hk hF)⟩⟩
theorem Stp.below {w w' : World} {tag : Nat → Nat} (hb : Below w.heap.size w w') : Stp w w' tag tag := ⟨fun _ _ => rfl, Only.of_below hb⟩
/-- A state behind a step, with the inodes where they were. -/
def Nx (w w' : World) (P lo st qb : Nat) (pl : Nat → Pl) (tag : Nat → Nat) (S' : BS) (room : Nat) (L' : List KN) (T' : Nat) : Prop :=
  ∃ qo' pl' tag', CB w' P lo st qb qo' pl' tag' S' room L' T' ∧ Stp w w' tag tag' ∧ ∀ j, (S'.ino j).kind ≠ 0 → (pl' j).nd = (pl j).nd

section
variable {w w' : World} {P lo st qb room T : Nat} {qo : Option Nat} {pl : Nat → Pl} {tag : Nat → Nat} {S : BS} {L : List KN}
theorem pl_same (pl : Nat → Pl) (k : Nat) : (fun j => if j = k then pl k else pl j) = pl := by
  funext j; split
  · next e => rw [e]
  · rfl
theorem CB.plt (h : CB w P lo st qb qo pl tag S room L T) : P < w.heap.size ∧ lo ≤ P := ⟨h.lt (by rw [h.tP]; decide), h.ge (by rw [h.tP]; decide)⟩
theorem CB.dstep (h : CB w P lo st qb qo pl tag S room L T) {D : Nat} (hk : D ≤ 200) (hD : (S.ino D).kind = 2) {K : List En} {v : Value} {e : Ending} (hs : dn.StepE w (pl D).di lo (pl D).dr v K e w') :
    e = .returned v ∧ Nx w w' P lo st qb pl tag ⟨upd S.ino D { S.ino D with dir := K }, S.used⟩ room L T := by
  obtain ⟨he, o', c', hd, ho, hf⟩ := hs
  have hn0 : (S.ino D).kind ≠ 0 := by rw [hD]; decide
  have hi := h.ino D hk hn0
  have t := h.ti D hk hn0
  have hO : Only (fun b => b = (pl D).di ∨ (pl D).dr = some b) w w' := ⟨hf.os, hf.tape, hf.output, hf.size, fun k hk hF => hf.block k hk (fun e => hF (.inl e)) (fun e => hF (.inr e))⟩
  have hF : ∀ b, (b = (pl D).di ∨ (pl D).dr = some b) → tag b = 5 * D + 8 ∨ tag b = 5 * D + 9 := by
    rintro b (rfl | e)
    · exact .inl (t.d hD).1
    · exact .inr ((t.d hD).2 b e)
  have oth : ∀ b, tag b ≠ 0 → tag b ≠ 5 * D + 8 → tag b ≠ 5 * D + 9 → w'.heap[b]? = w.heap[b]? := fun b h1 h2 h3 => h.block hO h1 (fun hf => by rcases hF b hf with e | e <;> omega)
  have hnd := oth (pl D).nd (by rw [t.n]; omega) (by rw [t.n]; omega) (by rw [t.n]; omega)
  have e1 : ∀ j, w'.cell? ⟨(pl D).nd, j, none⟩ = w.cell? ⟨(pl D).nd, j, none⟩ := fun j => World.cell?_of_block (a := ⟨(pl D).nd, j, none⟩) hnd
  have hx : InoC w' st lo { pl D with dr := o', dc := c' } { S.ino D with dir := K } :=
    ⟨(e1 0).trans hi.c0, (e1 1).trans hi.c1, (e1 2).trans hi.c2, (e1 3).trans hi.c3, (e1 4).trans hi.c4, (e1 5).trans hi.c5, (e1 6).trans hi.c6, (e1 7).trans hi.c7, fun j => (World.frozen?_of_block (a := ⟨(pl D).nd, j, none⟩) hnd).trans (hi.f j),
      fun k => by have k' : (S.ino D).kind = 1 := k; omega, fun _ => hd⟩
  obtain ⟨tg, tyes, tno⟩ : ∃ tg : Nat → Nat, (∀ b, o' = some b → tg b = 5 * D + 9) ∧ (∀ b, o' ≠ some b → tg b = tag b) := ⟨fun b => if o' = some b then 5 * D + 9 else tag b, fun b e => if_pos e, fun b e => if_neg e⟩
  have tt : ∀ b, b < w.heap.size → tg b = tag b := fun b hb => by
    by_cases e : o' = some b
    · rw [tyes b e]
      rcases ho b e with e1 | e1
      · exact ((t.d hD).2 b e1).symm
      · omega
    · exact tno b e
  refine ⟨he, qo, _, tg, h.turn (p := { pl D with dr := o', dc := c' }) (x := { S.ino D with dir := K }) hk hO (fun b hb => by rcases hF b hb with e | e <;> omega) hn0 (by exact hn0) rfl (StoC.keep h.sto (oth st (by rw [h.tS]; decide) (by rw [h.tS]; omega) (by rw [h.tS]; omega))) hx ?_ tt (fun b hb => ?_), ⟨tt, hO.mono fun b hb => by rcases hF b hb with e | e <;> omega⟩, fun j hj => ?_⟩
  · refine ⟨(tt _ hi.nlt).trans t.n, fun k => by have k' : (S.ino D).kind = 1 := k; omega, fun _ => ⟨(tt _ (hi.dlt hD).1).trans (t.d hD).1, fun G e => tyes G e⟩⟩
  · rw [tno, h.hi b (Nat.le_trans hf.size hb)]
    intro e
    have := (hd.glt b e).1
    omega
  · show (if j = D then _ else pl j).nd = _
    split
    · next e => rw [e]
    · rfl
/-- One cell of an inode is set. -/
theorem CB.setf (h : CB w P lo st qb qo pl tag S room L T) {k : Nat} (hk : k ≤ 200) (hn0 : (S.ino k).kind ≠ 0) (j : Nat) (v : Value) {x : Ino} (hx : (w.setCell ⟨(pl k).nd, j, none⟩ v).cell? ⟨(pl k).nd, 1, none⟩ = some (.int .i64 x.links) ∧ (w.setCell ⟨(pl k).nd, j, none⟩ v).cell? ⟨(pl k).nd, 2, none⟩ = some (.int .i64 x.holds) ∧
      (w.setCell ⟨(pl k).nd, j, none⟩ v).cell? ⟨(pl k).nd, 3, none⟩ = some (.int .i64 x.marks) ∧ (w.setCell ⟨(pl k).nd, j, none⟩ v).cell? ⟨(pl k).nd, 6, none⟩ = some (.int .i64 x.parent))
    (hj : j = 1 ∨ j = 2 ∨ j = 3 ∨ j = 6) (e1 : x.kind = (S.ino k).kind) (e2 : x.body = (S.ino k).body) (e3 : x.dir = (S.ino k).dir) (e4 : x.target = (S.ino k).target) :
    CB (w.setCell ⟨(pl k).nd, j, none⟩ v) P lo st qb qo pl tag ⟨upd S.ino k x, S.used⟩ room L T ∧ Stp w (w.setCell ⟨(pl k).nd, j, none⟩ v) tag tag := by
  have hi := h.ino k hk hn0
  have t := h.ti k hk hn0
  have hO : Only (fun b => b = (pl k).nd) w (w.setCell ⟨(pl k).nd, j, none⟩ v) := ⟨rfl, rfl, rfl, by simp [World.setCell], fun b hb hF => Below.heap_setCell _ _ _ _ hF⟩
  have oth : ∀ b, tag b ≠ 5 * k + 5 → (w.setCell ⟨(pl k).nd, j, none⟩ v).heap[b]? = w.heap[b]? := fun b h1 => Below.heap_setCell _ _ _ _ (fun e => h1 (by rw [e]; exact t.n))
  have eo : ∀ i, i ≠ j → (w.setCell ⟨(pl k).nd, j, none⟩ v).cell? ⟨(pl k).nd, i, none⟩ = w.cell? ⟨(pl k).nd, i, none⟩ := fun i hi => World.cell?_setCell_other _ _ _ _ (fun e => hi (by injection e with _ e _; exact e.symm))
  have hb : bpV (pl k) x = bpV (pl k) (S.ino k) := by unfold bpV; rw [e1]
  have hd : dpV (pl k) x = dpV (pl k) (S.ino k) := by unfold dpV; rw [e1]
  have hX : InoC (w.setCell ⟨(pl k).nd, j, none⟩ v) st lo (pl k) x := by
    refine ⟨by rw [eo 0 (by omega), hi.c0, e1], hx.1, hx.2.1, hx.2.2.1, by rw [eo 4 (by omega), hi.c4, hb], by rw [eo 5 (by omega), hi.c5, hd], hx.2.2.2, by rw [eo 7 (by omega), hi.c7, e4], fun i => by rw [World.frozen?_setCell]; exact hi.f i, fun k1 => ?_, fun k1 => ?_⟩
    · rw [e1] at k1
      rw [e2]
      exact (hi.bod k1).keep (oth _ (by rw [(t.b k1).1]; omega)) (oth _ (by rw [(t.b k1).2]; omega))
    · rw [e1] at k1
      rw [e3]
      exact (hi.dir k1).of_blocks (oth _ (by rw [(t.d k1).1]; omega)) (fun G e => oth _ (by rw [(t.d k1).2 G e]; omega))
  have hs : (w.setCell ⟨(pl k).nd, j, none⟩ v).heap.size = w.heap.size := by simp [World.setCell]
  have := h.turn hk hO (fun b hb => .inr (.inr (by rw [hb, t.n]; omega))) hn0 (by rw [e1]; exact hn0) rfl (StoC.keep h.sto (oth st (by rw [h.tS]; omega))) hX (tag' := tag) ⟨t.n, fun k1 => t.b (by rw [← e1]; exact k1), fun k1 => t.d (by rw [← e1]; exact k1)⟩ (fun _ _ => rfl) (fun b hb => h.hi b (by omega))
  rw [pl_same] at this
  exact ⟨this, fun _ _ => rfl, hO.mono fun b hb => by rw [hb, t.n]; omega⟩
/-- A file's body is turned, and the store with it. -/
theorem CB.bstep (h : CB w P lo st qb qo pl tag S room L T) {k : Nat} (hk : k ≤ 200) (hf : (S.ino k).kind = 1) {b' : AB} (hb : bl.BodE w st (pl k).bo (pl k).bm room S.used (S.ino k).body b' w') :
    CB w' P lo st qb qo pl tag ⟨upd S.ino k { S.ino k with body := b' }, S.used + b'.n - (S.ino k).body.n⟩ room L T ∧ Stp w w' tag tag := by
  have hn0 : (S.ino k).kind ≠ 0 := by rw [hf]; decide
  have hi := h.ino k hk hn0
  have t := h.ti k hk hn0
  have hF : ∀ b, bl.fp st (pl k).bo (pl k).bm b → tag b = 2 ∨ tag b = 5 * k + 6 ∨ tag b = 5 * k + 7 := by
    rintro b (rfl | rfl | rfl)
    · exact .inl h.tS
    · exact .inr (.inl (t.b hf).1)
    · exact .inr (.inr (t.b hf).2)
  have oth : ∀ b, tag b ≠ 0 → tag b ≠ 2 → tag b ≠ 5 * k + 6 → tag b ≠ 5 * k + 7 → w'.heap[b]? = w.heap[b]? := fun b h1 h2 h3 h4 => h.block hb.o h1 (fun hf => by rcases hF b hf with e | e | e <;> omega)
  have hnd := oth (pl k).nd (by rw [t.n]; omega) (by rw [t.n]; omega) (by rw [t.n]; omega) (by rw [t.n]; omega)
  have e1 : ∀ j, w'.cell? ⟨(pl k).nd, j, none⟩ = w.cell? ⟨(pl k).nd, j, none⟩ := fun j => World.cell?_of_block (a := ⟨(pl k).nd, j, none⟩) hnd
  have hx : InoC w' st lo (pl k) { S.ino k with body := b' } :=
    ⟨(e1 0).trans hi.c0, (e1 1).trans hi.c1, (e1 2).trans hi.c2, (e1 3).trans hi.c3, (e1 4).trans hi.c4, (e1 5).trans hi.c5, (e1 6).trans hi.c6, (e1 7).trans hi.c7, fun j => (World.frozen?_of_block (a := ⟨(pl k).nd, j, none⟩) hnd).trans (hi.f j),
      fun _ => hb.b, fun k' => by have k'' : (S.ino k).kind = 2 := k'; omega⟩
  have := h.turn hk hb.o (fun b hb' => by rcases hF b hb' with e | e | e <;> omega) hn0 (by exact hn0) rfl hb.s hx (tag' := tag) ⟨t.n, t.b, t.d⟩ (fun _ _ => rfl) (fun b hb' => h.hi b (Nat.le_trans hb.o.size hb'))
  rw [pl_same] at this
  exact ⟨this, fun _ _ => rfl, hb.o.mono fun b hb' => by rcases hF b hb' with e | e | e <;> omega⟩
theorem CB.qstep (h : CB w P lo st qb qo pl tag S room L T) {v : Value} {L' : List KN} {T' : Nat} {e : Ending} (hs : qu.StepE w qb lo qo v L' T' e w') : e = .returned v ∧ Nx w w' P lo st qb pl tag S room L' T' := by
  obtain ⟨he, o', hq, ho, hf⟩ := hs
  obtain ⟨tag', h1, h2, h3⟩ := h.queue hq ho hf
  exact ⟨he, o', pl, tag', h1, ⟨h2, h3⟩, fun _ _ => rfl⟩
end
end Go.Proofs.YtnnaoldpacbagaaGreat.cb
end
section
namespace Go.Proofs.YtnnaoldpacbagaaGreat.cb
open Go.RowKit
open Go.Proofs.YtnnaoldpacbagaaGreat.qu (KN ins QL)
open Go.Proofs.YtnnaoldpacbagaaGreat.dn (Du En lget lset ldel getV nerr dotB Sorted RetV)
open Go.Proofs.YtnnaoldpacbagaaGreat.bl (AB Bod BodC StoC Only Pq)
open Go.Proofs.YtnnaoldpacbagaaGreat.br
set_option linter.unusedVariables false

def atV (S : BS) (pl : Nat → Pl) (i : Int) : Value := if S.isI i = true then Pq (pl i.toNat).nd else .pointer none
section
variable {w w' : World} {P lo st qb room T : Nat} {qo : Option Nat} {pl : Nat → Pl} {tag : Nat → Nat} {S : BS} {L : List KN}
theorem atV_yes {k : Nat} (h1 : 1 ≤ k) (h2 : k ≤ 200) (hk : (S.ino k).kind ≠ 0) : atV S pl (k : Int) = Pq (pl k).nd := by
  unfold atV BS.isI
  rw [if_pos (by simp only [at_nat, decide_eq_true_eq]; exact ⟨by omega, by omega, hk⟩)]; rfl
theorem atV_no {i : Int} (h : S.isI i = false) : atV S pl i = .pointer none := by unfold atV; rw [if_neg (by rw [h]; decide)]
set_option maxRecDepth 100000 in
theorem at_any (h : CB w P lo st qb qo pl tag S room L T) (h0 : (S.ino 0).kind = 0) (i : Int) : Calls Tryz.prog 89 #[Pq P, .int .i64 i] w (fun e w' => e = .returned (atV S pl i) ∧ w' = w) := by
  by_cases h1 : i < 0
  · have hv := Lib.hid (atV_no (pl := pl) (show S.isI i = false by unfold BS.isI; simp; omega))
    clear h h0
    go_enter Tryz.func89, Tryz.ntmps89
    go_wp2_with fail
    go_ret
    exact ⟨by rw [hv.out]; rfl, rfl⟩
  · by_cases h2 : 200 < i
    · have hv := Lib.hid (atV_no (pl := pl) (show S.isI i = false by unfold BS.isI; simp; omega))
      clear h h0
      go_enter Tryz.func89, Tryz.ntmps89
      go_wp2_with fail
      go_ret
      exact ⟨by rw [hv.out]; rfl, rfl⟩
    · obtain ⟨k, rfl⟩ : ∃ k : Nat, i = (k : Int) := ⟨i.toNat, by omega⟩
      have hk : k ≤ 200 := by omega
      have hc := h.ci k hk
      have hv := Lib.hid (show atV S pl (k : Int) = ptV (pl k).nd (S.ino k) by
        by_cases e : (S.ino k).kind = 0
        · rw [ptV_no e, atV_no (by unfold BS.isI; simp [at_nat]; intro _ _; exact e)]
        · rw [ptV_yes e, atV_yes (by rcases Nat.eq_zero_or_pos k with e1 | e1; subst e1; exact absurd h0 e; exact e1) hk e])
      generalize ptV (pl k).nd (S.ino k) = v at hc hv
      clear h h0 h1 h2
      go_enter Tryz.func89, Tryz.ntmps89
      go_wp2_with fail
      go_ret
      exact ⟨by rw [hv.out]; rfl, rfl⟩
def listV (S : BS) (pl : Nat → Pl) (d : Int) (c : Bool) : Value := .tuple #[if S.dirE d c = 0 then Pq (pl d.toNat).nd else .pointer none, .int .i64 (S.dirE d c)]
theorem dirE_cases (S : BS) (d : Int) : (S.isI d = false ∧ ∀ c, S.dirE d c = 2) ∨ ∃ D : Nat, d = (D : Int) ∧ 1 ≤ D ∧ D ≤ 200 ∧ S.isI d = true ∧ (S.ino D).kind ≠ 0 ∧ (((S.ino D).kind ≠ 2 ∧ ∀ c, S.dirE d c = 20) ∨
    ((S.ino D).kind = 2 ∧ S.dirE d false = 0 ∧ (((S.ino D).links = 0 ∧ S.dirE d true = 2) ∨ ((S.ino D).links ≠ 0 ∧ S.dirE d true = 0)))) := by
  cases h : S.isI d
  · exact .inl ⟨rfl, fun c => by unfold BS.dirE; rw [if_pos h]⟩
  · obtain ⟨D, rfl, h1, h2, h3⟩ := isI_yes h
    refine .inr ⟨D, rfl, h1, h2, rfl, h3, ?_⟩
    have hn : ¬ (S.isI (D : Int) = false) := by rw [h]; decide
    unfold BS.dirE
    simp only [if_neg hn, at_nat]
    by_cases e : (S.ino D).kind = 2
    · refine .inr ⟨e, by simp [e], ?_⟩
      by_cases e2 : (S.ino D).links = 0
      · exact .inl ⟨e2, by simp [e, e2]⟩
      · exact .inr ⟨e2, by simp [e, e2]⟩
    · exact .inl ⟨e, fun c => by rw [if_pos e]⟩
set_option maxRecDepth 100000 in
theorem listed_any (h : CB w P lo st qb qo pl tag S room L T) (h0 : (S.ino 0).kind = 0) (d : Int) : Calls Tryz.prog 115 #[Pq P, .int .i64 d] w (fun e w' => e = .returned (listV S pl d false) ∧ w' = w) := by
  have HA := Lib.hid (at_any h h0 d)
  rcases dirE_cases S d with ⟨h1, h2⟩ | ⟨D, rfl, d1, d2, h1, h3, h4⟩
  · have hv := Lib.hid (show listV S pl d false = .tuple #[.pointer none, .int .i64 2] by unfold listV; rw [h2]; rfl)
    rw [atV_no h1] at HA
    clear h h0
    go_enter Tryz.func115, Tryz.ntmps115
    go_wp2_with fail
    refine HA.out.mono ?_
    rintro e w2 ⟨rfl, rfl⟩
    go_wp2_with fail
    go_ret2
    exact ⟨by rw [hv.out]; rfl, rfl⟩
  · have hi := h.ino D d2 h3
    have hc := hi.c0
    have hn : atV S pl (D : Int) = Pq (pl D).nd := atV_yes d1 d2 h3
    rw [hn] at HA
    rcases h4 with ⟨h4, h5⟩ | ⟨h4, h5, _⟩
    · have hv := Lib.hid (show listV S pl (D : Int) false = .tuple #[.pointer none, .int .i64 20] by unfold listV; rw [h5]; rfl)
      generalize (pl D).nd = N at *
      generalize (S.ino D).kind = K at *
      clear h h0 hi h5 h3
      go_enter Tryz.func115, Tryz.ntmps115
      go_wp2_with fail
      refine HA.out.mono ?_
      rintro e w2 ⟨rfl, rfl⟩
      go_wp2_with fail
      go_ret2
      exact ⟨by rw [hv.out]; rfl, rfl⟩
    · have hv := Lib.hid (show listV S pl (D : Int) false = .tuple #[Pq (pl D).nd, .int .i64 0] by unfold listV; rw [h5]; rfl)
      generalize (pl D).nd = N at *
      rw [h4] at hc
      clear h h0 hi h5 h3 h4
      go_enter Tryz.func115, Tryz.ntmps115
      go_wp2_with fail
      refine HA.out.mono ?_
      rintro e w2 ⟨rfl, rfl⟩
      go_wp2_with fail
      go_ret2
      exact ⟨by rw [hv.out]; rfl, rfl⟩
set_option maxRecDepth 100000 in
theorem changed_any (h : CB w P lo st qb qo pl tag S room L T) (h0 : (S.ino 0).kind = 0) (d : Int) : Calls Tryz.prog 105 #[Pq P, .int .i64 d] w (fun e w' => e = .returned (listV S pl d true) ∧ w' = w) := by
  have HA := Lib.hid (listed_any h h0 d)
  have bad : ∀ r : Int, r ≠ 0 → S.dirE d false = r → S.dirE d true = r → Calls Tryz.prog 105 #[Pq P, .int .i64 d] w (fun e w' => e = .returned (listV S pl d true) ∧ w' = w) := by
    intro r hr e1 e2
    have hv := Lib.hid (show listV S pl d true = .tuple #[.pointer none, .int .i64 r] by unfold listV; rw [e2, if_neg hr])
    have hl : listV S pl d false = .tuple #[.pointer none, .int .i64 r] := by unfold listV; rw [e1, if_neg hr]
    rw [hl] at HA
    clear h h0 hl e1 e2
    go_enter Tryz.func105, Tryz.ntmps105
    go_wp2_with fail
    refine HA.out.mono ?_
    rintro e w2 ⟨rfl, rfl⟩
    go_wp2_with fail
    go_ret2
    exact ⟨by rw [hv.out]; rfl, rfl⟩
  rcases dirE_cases S d with ⟨h1, h2⟩ | ⟨D, rfl, d1, d2, h1, h3, h4⟩
  · exact bad 2 (by decide) (h2 _) (h2 _)
  · have hi := h.ino D d2 h3
    have hc := hi.c1
    rcases h4 with ⟨h4, h5⟩ | ⟨h4, h5, ⟨h6, h7⟩ | ⟨h6, h7⟩⟩
    · exact bad 20 (by decide) (h5 _) (h5 _)
    · have hv := Lib.hid (show listV S pl (D : Int) true = .tuple #[.pointer none, .int .i64 2] by unfold listV; rw [h7]; rfl)
      have hl : listV S pl (D : Int) false = .tuple #[Pq (pl D).nd, .int .i64 0] := by unfold listV; rw [h5]; rfl
      rw [hl] at HA
      generalize (pl D).nd = N at *
      rw [h6] at hc
      clear h h0 hi h5 h3 h4 bad hl
      go_enter Tryz.func105, Tryz.ntmps105
      go_wp2_with fail
      refine HA.out.mono ?_
      rintro e w2 ⟨rfl, rfl⟩
      go_wp2_with fail
      go_ret2
      exact ⟨by rw [hv.out]; rfl, rfl⟩
    · have hv := Lib.hid (show listV S pl (D : Int) true = .tuple #[Pq (pl D).nd, .int .i64 0] by unfold listV; rw [h7]; rfl)
      have hl : listV S pl (D : Int) false = .tuple #[Pq (pl D).nd, .int .i64 0] := by unfold listV; rw [h5]; rfl
      rw [hl] at HA
      generalize (pl D).nd = N at *
      generalize (S.ino D).links = K at *
      clear h h0 hi h5 h3 h4 bad hl
      go_enter Tryz.func105, Tryz.ntmps105
      go_wp2_with fail
      refine HA.out.mono ?_
      rintro e w2 ⟨rfl, rfl⟩
      go_wp2_with fail
      go_ret2
      exact ⟨by rw [hv.out]; rfl, rfl⟩
end
end Go.Proofs.YtnnaoldpacbagaaGreat.cb
end
section
namespace Go.Proofs.YtnnaoldpacbagaaGreat.cb
open Go.RowKit
open Go.Proofs.YtnnaoldpacbagaaGreat.qu (KN ins QL)
open Go.Proofs.YtnnaoldpacbagaaGreat.dn (Du En lget lset ldel getV nerr dotB Sorted RetV)
open Go.Proofs.YtnnaoldpacbagaaGreat.bl (AB Bod BodC StoC Only Pq)
open Go.Proofs.YtnnaoldpacbagaaGreat.br
set_option linter.unusedVariables false

def RetI (w : World) (v : Int) (e : Ending) (w' : World) : Prop := e = .returned (.int .i64 v) ∧ Below w.heap.size w w'
def RetW (w : World) (v : Value) (e : Ending) (w' : World) : Prop := e = .returned v ∧ Below w.heap.size w w'
set_option maxRecDepth 100000 in
theorem newName_any (s : ByteArray) (w : World) (hm : s.size ≤ 9223372036854775807) : Calls Tryz.prog 106 #[.string s] w (RetI w (nameE s)) := by
  have HN := Lib.hid (dn.name_any s w hm)
  unfold dn.NameE at HN
  unfold RetI
  by_cases he : nerr s.data.toList = 0
  · rw [he] at HN
    obtain ⟨q1, h1⟩ : ∃ a, (s.toList == [46]) = a := ⟨_, rfl⟩
    obtain ⟨q2, h2⟩ : ∃ a, (s.toList == [46, 46]) = a := ⟨_, rfl⟩
    have hV := Lib.hid (show nameE s = if (q1 || q2) = true then 22 else 0 by unfold nameE dotB; rw [h1, h2, he]; simp)
    generalize nameE s = r at *
    clear he
    rcases (show q1 = true ∨ (q1 = false ∧ q2 = true) ∨ (q1 = false ∧ q2 = false) by cases q1 <;> cases q2 <;> simp) with rfl | ⟨rfl, rfl⟩ | ⟨rfl, rfl⟩
    all_goals
      go_enter Tryz.func106, Tryz.ntmps106
      go_wp2_with fail
      refine HN.out.mono ?_
      rintro e w2 ⟨rfl, hb2⟩
      go_wp2_with fail
      go_ret
      exact ⟨by rw [hV.out]; rfl, hb2⟩
  · have hV := Lib.hid (show nameE s = nerr s.data.toList by unfold nameE; rw [if_neg (fun h => he h.1)])
    generalize nameE s = r at *
    generalize nerr s.data.toList = x at *
    have hr : (x != 0) = true := by simpa using he
    clear he
    go_enter Tryz.func106, Tryz.ntmps106
    go_wp2_with fail
    refine HN.out.mono ?_
    rintro e w2 ⟨rfl, hb2⟩
    go_wp2_with fail
    go_ret
    exact ⟨by rw [hV.out]; rfl, hb2⟩
section
variable {w w' : World} {P lo st qb room T : Nat} {qo : Option Nat} {pl : Nat → Pl} {tag : Nat → Nat} {S : BS} {L : List KN}
theorem CB.get (h : CB w P lo st qb qo pl tag S room L T) (hG : br.Good S room) {D : Nat} (hD : (S.ino D).kind = 2) (s : ByteArray) : Calls Tryz.prog 108 #[Pq (pl D).di, .string s] w (RetV w (getV s (S.ino D).dir)) := by
  have hn := hG.1.num (k := D) (by rw [hD]; decide)
  have hi := h.ino D hn.2 (by rw [hD]; decide)
  have hl := hG.1.dirLen D
  exact dn.get_any _ _ _ _ _ s w (hG.1.sorted D) (by omega) (hi.dir hD)
theorem CB.len (h : CB w P lo st qb qo pl tag S room L T) (hG : br.Good S room) {D : Nat} (hD : (S.ino D).kind = 2) : Calls Tryz.prog 144 #[Pq (pl D).di] w (fun e w' => e = .returned (.int .i64 (S.ino D).dir.length) ∧ w' = w) := by
  have hn := hG.1.num (k := D) (by rw [hD]; decide)
  have hi := h.ino D hn.2 (by rw [hD]; decide)
  exact dn.dlen_any _ _ _ _ _ w (hi.dir hD)
theorem InoC.c5d {w : World} {st lo : Nat} {p : Pl} {x : Ino} (h : InoC w st lo p x) (k : x.kind = 2) : w.cell? ⟨p.nd, 5, none⟩ = some (Pq p.di) := by rw [h.c5]; unfold dpV; rw [if_pos k]
theorem InoC.c4f {w : World} {st lo : Nat} {p : Pl} {x : Ino} (h : InoC w st lo p x) (k : x.kind = 1) : w.cell? ⟨p.nd, 4, none⟩ = some (Pq p.bo) := by rw [h.c4]; unfold bpV; rw [if_pos k]
/-- What the check of a directory that is one leaves. -/
theorem listV_bad {S : BS} {d : Int} {c : Bool} (h : S.dirE d c ≠ 0) : listV S pl d c = .tuple #[.pointer none, .int .i64 (S.dirE d c)] := by unfold listV; rw [if_neg h]
theorem listV_ok {S : BS} {D : Nat} {c : Bool} (h : S.dirE (D : Int) c = 0) : listV S pl (D : Int) c = .tuple #[Pq (pl D).nd, .int .i64 0] := by unfold listV; rw [if_pos h, h]; rfl
def vacV (S : BS) (pl : Nat → Pl) (d : Int) (s : ByteArray) : Value := .tuple #[if S.vacant d s = 0 then Pq (pl d.toNat).nd else .pointer none, .int .i64 (S.vacant d s)]
set_option maxRecDepth 100000 in
theorem vacant_any (h : CB w P lo st qb qo pl tag S room L T) (hG : br.Good S room) (d : Int) (s : ByteArray) (hm : s.size ≤ 9223372036854775807) : Calls Tryz.prog 78 #[Pq P, .int .i64 d, .string s] w (RetW w (vacV S pl d s)) := by
  have HC := Lib.hid (changed_any h hG.z0 d)
  unfold RetW
  by_cases h1 : S.dirE d true = 0
  · obtain ⟨D, rfl, d1, d2, hD, hl⟩ := dirE_ok h1
    rw [listV_ok h1] at HC
    have HN := Lib.hid (newName_any s w hm)
    unfold RetI at HN
    by_cases h2 : nameE s = 0
    · have HB := Lib.hid (fun W (hb : Below w.heap.size w W) => ((h.below hb).ino D d2 (by rw [hD]; decide)).c5d hD)
      have HG := Lib.hid (fun W (hb : Below w.heap.size w W) => (h.below hb).get hG hD s)
      rw [h2] at HN
      cases hg : lget s (S.ino D).dir with
      | none =>
        have hv := Lib.hid (show vacV S pl (D : Int) s = .tuple #[Pq (pl D).nd, .int .i64 0] by
          have : S.vacant (D : Int) s = 0 := by unfold BS.vacant; rw [if_neg (by omega), if_neg (by omega), at_nat, hg]; rfl
          unfold vacV; rw [this]; rfl)
        have hgv : getV s (S.ino D).dir = .tuple #[.int .i64 0, .int .i64 2] := by unfold getV; rw [hg]
        rw [hgv] at HG
        generalize (pl D).nd = N at *
        generalize (pl D).di = M at *
        clear h h1 h2 hl hgv hg hG
        go_enter Tryz.func78, Tryz.ntmps78
        go_wp2_with fail
        refine HC.out.mono ?_
        rintro e w2 ⟨rfl, rfl⟩
        go_wp2_with fail
        refine HN.out.mono ?_
        rintro e w3 ⟨rfl, hb3⟩
        have c5 := HB.out w3 hb3
        have HG3 := Lib.hid (HG.out w3 hb3)
        clear HB HG
        go_wp2_with fail
        refine HG3.out.mono ?_
        rintro e w4 ⟨rfl, hb4⟩
        clear c5
        go_wp2_with fail
        go_ret2
        exact ⟨by rw [hv.out]; rfl, dn.below_step hb3 hb4⟩
      | some v =>
        have hv := Lib.hid (show vacV S pl (D : Int) s = .tuple #[.pointer none, .int .i64 17] by
          have : S.vacant (D : Int) s = 17 := by unfold BS.vacant; rw [if_neg (by omega), if_neg (by omega), at_nat, hg]; rfl
          unfold vacV; rw [this]; rfl)
        have hgv : getV s (S.ino D).dir = .tuple #[.int .i64 v, .int .i64 0] := by unfold getV; rw [hg]
        rw [hgv] at HG
        generalize (pl D).nd = N at *
        generalize (pl D).di = M at *
        clear h h1 h2 hl hgv hg hG
        go_enter Tryz.func78, Tryz.ntmps78
        go_wp2_with fail
        refine HC.out.mono ?_
        rintro e w2 ⟨rfl, rfl⟩
        go_wp2_with fail
        refine HN.out.mono ?_
        rintro e w3 ⟨rfl, hb3⟩
        have c5 := HB.out w3 hb3
        have HG3 := Lib.hid (HG.out w3 hb3)
        clear HB HG
        go_wp2_with fail
        refine HG3.out.mono ?_
        rintro e w4 ⟨rfl, hb4⟩
        clear c5
        go_wp2_with fail
        go_ret2
        exact ⟨by rw [hv.out]; rfl, dn.below_step hb3 hb4⟩
    · have hv := Lib.hid (show vacV S pl (D : Int) s = .tuple #[.pointer none, .int .i64 (nameE s)] by
        have : S.vacant (D : Int) s = nameE s := by unfold BS.vacant; rw [if_neg (by omega), if_pos h2]
        unfold vacV; rw [this, if_neg h2])
      generalize (pl D).nd = N at *
      generalize nameE s = x at *
      have hr : (x != 0) = true := by simpa using h2
      clear h h1 h2 hl hG
      go_enter Tryz.func78, Tryz.ntmps78
      go_wp2_with fail
      refine HC.out.mono ?_
      rintro e w2 ⟨rfl, rfl⟩
      go_wp2_with fail
      refine HN.out.mono ?_
      rintro e w3 ⟨rfl, hb3⟩
      go_wp2_with fail
      go_ret2
      exact ⟨by rw [hv.out]; rfl, hb3⟩
  · have hv := Lib.hid (show vacV S pl d s = .tuple #[.pointer none, .int .i64 (S.dirE d true)] by
      have : S.vacant d s = S.dirE d true := by unfold BS.vacant; rw [if_pos h1]
      unfold vacV; rw [this, if_neg h1])
    rw [listV_bad h1] at HC
    generalize S.dirE d true = x at *
    have hr : (x != 0) = true := by simpa using h1
    clear h h1 hG
    go_enter Tryz.func78, Tryz.ntmps78
    go_wp2_with fail
    refine HC.out.mono ?_
    rintro e w2 ⟨rfl, rfl⟩
    go_wp2_with fail
    go_ret2
    exact ⟨by rw [hv.out]; rfl, Below.refl _ _⟩
end
end Go.Proofs.YtnnaoldpacbagaaGreat.cb
end
