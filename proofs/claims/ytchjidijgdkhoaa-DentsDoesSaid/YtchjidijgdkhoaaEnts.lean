/- Plain facts: rows of names and numbers, rising by name; what setting, taking away and asking come to. -/
import Derived.Lib.Strings
namespace Go.Proofs.Ytchjidijgdkhoaa

abbrev Bs := List UInt8
abbrev En := ByteArray × Int
def lessB (a b : ByteArray) : Bool := Op.bytesLess a.toList b.toList

theorem bl_irrefl (a : Bs) : Op.bytesLess a a = false := by
  induction a with
  | nil => rfl
  | cons x a ih => simp [Op.bytesLess, ih]
theorem bl_total (a b : Bs) (h : a ≠ b) : Op.bytesLess a b = !Op.bytesLess b a := by
  induction a generalizing b with
  | nil =>
    cases b with
    | nil => exact absurd rfl h
    | cons y b => rfl
  | cons x a ih =>
    cases b with
    | nil => rfl
    | cons y b =>
      by_cases hxy : x = y
      · subst hxy
        simp [Op.bytesLess, ih b (fun e => h (by rw [e]))]
      · have h1 : x.toNat ≠ y.toNat := fun e => hxy (UInt8.toNat_inj.1 e)
        have h2 : (x == y) = false := by simpa using hxy
        have h3 : (y == x) = false := by simpa using fun e => hxy e.symm
        simp only [Op.bytesLess, h2, h3, Bool.false_and, Bool.or_false]
        rcases Nat.lt_or_ge x.toNat y.toNat with h | h
        · have a1 : x < y := UInt8.lt_iff_toNat_lt.2 h
          have a2 : ¬ y < x := fun e => by have := UInt8.lt_iff_toNat_lt.1 e; omega
          simp [a1, a2]
        · have a1 : y < x := UInt8.lt_iff_toNat_lt.2 (by omega)
          have a2 : ¬ x < y := fun e => by have := UInt8.lt_iff_toNat_lt.1 e; omega
          simp [a1, a2]
theorem bl_trans (a b c : Bs) (h1 : Op.bytesLess a b = true) (h2 : Op.bytesLess b c = true) : Op.bytesLess a c = true := by
  induction a generalizing b c with
  | nil =>
    cases c with
    | nil => cases b <;> simp [Op.bytesLess] at h2
    | cons z c => rfl
  | cons x a ih =>
    cases b with
    | nil => simp [Op.bytesLess] at h1
    | cons y b =>
      cases c with
      | nil => simp [Op.bytesLess] at h2
      | cons z c =>
        simp only [Op.bytesLess, Bool.or_eq_true, Bool.and_eq_true, decide_eq_true_eq, beq_iff_eq, UInt8.lt_iff_toNat_lt] at h1 h2 ⊢
        rcases h1 with h1 | ⟨rfl, h1⟩
        · rcases h2 with h2 | ⟨rfl, h2⟩
          · exact .inl (by omega)
          · exact .inl h1
        · rcases h2 with h2 | ⟨rfl, h2⟩
          · exact .inl h2
          · exact .inr ⟨rfl, ih b c h1 h2⟩

theorem toList_inj {a b : ByteArray} (h : a.toList = b.toList) : a = b := by
  rw [Lib.toList_data, Lib.toList_data] at h
  rw [← Lib.mk_data a, ← Lib.mk_data b, h]
theorem beq_names (a b : ByteArray) : (a.toList == b.toList) = decide (a = b) := by
  by_cases h : a = b
  · subst h; simp
  · rw [decide_eq_false h, beq_eq_false_iff_ne]; exact fun e => h (toList_inj e)
theorem less_irrefl (a : ByteArray) : lessB a a = false := bl_irrefl _
theorem less_total {a b : ByteArray} (h : a ≠ b) : lessB a b = !lessB b a := bl_total _ _ fun e => h (toList_inj e)
theorem less_trans {a b c : ByteArray} (h1 : lessB a b = true) (h2 : lessB b c = true) : lessB a c = true := bl_trans _ _ _ h1 h2
theorem less_ne {a b : ByteArray} (h : lessB a b = true) : a ≠ b := fun e => by subst e; rw [less_irrefl] at h; cases h
theorem less_asymm {a b : ByteArray} (h : lessB a b = true) : lessB b a = false := by
  rw [less_total (less_ne h)] at h; simpa using h
theorem less_of {a b : ByteArray} (h1 : a ≠ b) (h2 : lessB a b = false) : lessB b a = true := by
  rw [less_total h1] at h2; simpa using h2

def Sorted (L : List En) : Prop := L.Pairwise fun a b => lessB a.1 b.1 = true

def lset (s : ByteArray) (v : Int) : List En → List En
  | [] => [(s, v)]
  | e :: l => if lessB e.1 s then e :: lset s v l else if e.1 = s then (s, v) :: l else (s, v) :: e :: l
def lget (s : ByteArray) (L : List En) : Option Int := (L.find? fun e => decide (e.1 = s)).map (·.2)
def ldel (s : ByteArray) (L : List En) : List En := L.filter fun e => !decide (e.1 = s)
def lnext (s : ByteArray) (L : List En) : Option En := L.find? fun e => lessB s e.1

theorem Sorted.cons {e : En} {l : List En} (h : Sorted (e :: l)) : Sorted l ∧ ∀ x ∈ l, lessB e.1 x.1 = true := ⟨(List.pairwise_cons.1 h).2, (List.pairwise_cons.1 h).1⟩
theorem lset_mem {s : ByteArray} {v : Int} {L : List En} (h : Sorted L) (e : En) : e ∈ lset s v L ↔ e = (s, v) ∨ (e ∈ L ∧ e.1 ≠ s) := by
  induction L with
  | nil => simp [lset]
  | cons x l ih =>
    obtain ⟨h1, h2⟩ := h.cons
    unfold lset
    by_cases hx : lessB x.1 s = true
    · rw [if_pos hx, List.mem_cons, ih h1, List.mem_cons]
      have hne := less_ne hx
      constructor
      · rintro (rfl | h | ⟨h, h'⟩)
        · exact .inr ⟨.inl rfl, hne⟩
        · exact .inl h
        · exact .inr ⟨.inr h, h'⟩
      · rintro (h | ⟨rfl | h, h'⟩)
        · exact .inr (.inl h)
        · exact .inl rfl
        · exact .inr (.inr ⟨h, h'⟩)
    · rw [if_neg hx]
      by_cases hs : x.1 = s
      · rw [if_pos hs, List.mem_cons, List.mem_cons]
        constructor
        · rintro (h | h)
          · exact .inl h
          · exact .inr ⟨.inr h, fun e' => less_ne (h2 e h) (hs.trans e'.symm)⟩
        · rintro (h | ⟨rfl | h, h'⟩)
          · exact .inl h
          · exact absurd hs h'
          · exact .inr h
      · rw [if_neg hs, List.mem_cons, List.mem_cons]
        have hsx : lessB s x.1 = true := less_of hs (by simpa using hx)
        constructor
        · rintro (h | rfl | h)
          · exact .inl h
          · exact .inr ⟨.inl rfl, hs⟩
          · exact .inr ⟨.inr h, fun e' => less_ne (less_trans hsx (h2 e h)) e'.symm⟩
        · rintro (h | ⟨h, _⟩)
          · exact .inl h
          · exact .inr h
theorem lset_sorted {s : ByteArray} {v : Int} {L : List En} (h : Sorted L) : Sorted (lset s v L) := by
  induction L with
  | nil => simp [lset, Sorted]
  | cons x l ih =>
    obtain ⟨h1, h2⟩ := h.cons
    unfold lset
    by_cases hx : lessB x.1 s = true
    · rw [if_pos hx]
      refine List.pairwise_cons.2 ⟨fun e he => ?_, ih h1⟩
      rcases (lset_mem h1 e).1 he with rfl | ⟨he, _⟩
      · exact hx
      · exact h2 e he
    · rw [if_neg hx]
      by_cases hs : x.1 = s
      · rw [if_pos hs]
        exact List.pairwise_cons.2 ⟨fun e he => by have := h2 e he; rw [hs] at this; exact this, h1⟩
      · rw [if_neg hs]
        have hsx : lessB s x.1 = true := less_of hs (by simpa using hx)
        refine List.pairwise_cons.2 ⟨fun e he => ?_, h⟩
        rcases List.mem_cons.1 he with rfl | he
        · exact hsx
        · exact less_trans hsx (h2 e he)
theorem ldel_mem {s : ByteArray} {L : List En} (e : En) : e ∈ ldel s L ↔ e ∈ L ∧ e.1 ≠ s := by simp [ldel, List.mem_filter]
theorem ldel_sorted {s : ByteArray} {L : List En} (h : Sorted L) : Sorted (ldel s L) := List.Pairwise.filter _ h
theorem names_inj {L : List En} (h : Sorted L) {a b : En} (ha : a ∈ L) (hb : b ∈ L) (e : a.1 = b.1) : a = b := by
  induction L with
  | nil => cases ha
  | cons x l ih =>
    obtain ⟨h1, h2⟩ := h.cons
    rcases List.mem_cons.1 ha with rfl | ha' <;> rcases List.mem_cons.1 hb with rfl | hb'
    · rfl
    · exact absurd e (less_ne (h2 b hb'))
    · exact absurd e.symm (less_ne (h2 a ha'))
    · exact ih h1 ha' hb'
theorem lget_some {s : ByteArray} {v : Int} {L : List En} (h : Sorted L) : lget s L = some v ↔ (s, v) ∈ L := by
  unfold lget
  constructor
  · intro e
    cases hf : L.find? fun e => decide (e.1 = s) with
    | none => rw [hf] at e; simp at e
    | some x =>
      rw [hf] at e
      have h1 := List.mem_of_find?_eq_some hf
      have h2 := List.find?_some hf
      simp at h2 e
      obtain ⟨a, b⟩ := x
      simp at h2 e
      subst h2; subst e
      exact h1
  · intro hm
    cases hf : L.find? fun e => decide (e.1 = s) with
    | none =>
      have := List.find?_eq_none.1 hf (s, v) hm
      simp at this
    | some x =>
      have h1 := List.mem_of_find?_eq_some hf
      have h2 := List.find?_some hf
      simp at h2
      have := names_inj h h1 hm h2
      subst this
      rfl
theorem lget_none {s : ByteArray} {L : List En} : lget s L = none ↔ ∀ e ∈ L, e.1 ≠ s := by simp [lget]
theorem sorted_ext {L K : List En} (hL : Sorted L) (hK : Sorted K) (h : ∀ e, e ∈ L ↔ e ∈ K) : L = K := by
  induction L generalizing K with
  | nil =>
    cases K with
    | nil => rfl
    | cons y k => have := (h y).2 (by simp); cases this
  | cons x l ih =>
    cases K with
    | nil => have := (h x).1 (by simp); cases this
    | cons y k =>
      obtain ⟨l1, l2⟩ := hL.cons
      obtain ⟨k1, k2⟩ := hK.cons
      have hxy : x = y := by
        rcases List.mem_cons.1 ((h x).1 (by simp)) with e | e1
        · exact e
        · rcases List.mem_cons.1 ((h y).2 (by simp)) with e | e2
          · exact e.symm
          · have := less_asymm (l2 y e2); rw [k2 x e1] at this; cases this
      subst hxy
      refine congrArg _ (ih l1 k1 fun e => ⟨fun he => ?_, fun he => ?_⟩)
      · rcases List.mem_cons.1 ((h e).1 (by simp [he])) with rfl | h'
        · have := l2 e he; rw [less_irrefl] at this; cases this
        · exact h'
      · rcases List.mem_cons.1 ((h e).2 (by simp [he])) with rfl | h'
        · have := k2 e he; rw [less_irrefl] at this; cases this
        · exact h'

/-- The place at which a name stands, or would stand. -/
def pos (s : ByteArray) : List En → Nat
  | [] => 0
  | e :: l => if lessB e.1 s then pos s l + 1 else 0
theorem pos_le (s : ByteArray) (L : List En) : pos s L ≤ L.length := by
  induction L with
  | nil => exact Nat.le_refl _
  | cons x l ih => unfold pos; split <;> simp <;> omega
theorem pos_lt {s : ByteArray} {L : List En} {i : Nat} (hi : i < pos s L) {x : En} (hx : L[i]? = some x) : lessB x.1 s = true := by
  induction L generalizing i with
  | nil => simp [pos] at hi
  | cons y l ih =>
    unfold pos at hi
    split at hi
    · rename_i h
      cases i with
      | zero => simp at hx; subst hx; exact h
      | succ i => exact ih (i := i) (by omega) (by simpa using hx)
    · omega
theorem pos_ge {s : ByteArray} {L : List En} (hs : Sorted L) {i : Nat} (hi : pos s L ≤ i) {x : En} (hx : L[i]? = some x) : lessB x.1 s = false := by
  induction L generalizing i with
  | nil => simp at hx
  | cons y l ih =>
    obtain ⟨h1, h2⟩ := hs.cons
    unfold pos at hi
    split at hi
    · cases i with
      | zero => omega
      | succ i => exact ih (i := i) h1 (by omega) (by simpa using hx)
    · rename_i h
      cases i with
      | zero => simp at hx; subst hx; simpa using h
      | succ i =>
        have hm : x ∈ l := List.mem_of_getElem? (by simpa using hx)
        rw [Bool.eq_false_iff]
        intro hc
        exact h (less_trans (h2 x hm) hc)
/-- What a name leads to. -/
theorem lget_pos {s : ByteArray} {L : List En} (hs : Sorted L) : lget s L = match L[pos s L]? with | some x => if x.1 = s then some x.2 else none | none => none := by
  cases hx : L[pos s L]? with
  | none =>
    simp only
    rw [lget_none]
    intro e he hn
    obtain ⟨i, hi, rfl⟩ := List.getElem_of_mem he
    have hl : L.length ≤ pos s L := by simpa using hx
    have := pos_lt (s := s) (L := L) (i := i) (by omega) (List.getElem?_eq_getElem hi)
    exact less_ne this hn
  | some x =>
    simp only
    split
    · rename_i hn
      rw [lget_some hs, ← hn]
      exact List.mem_of_getElem? hx
    · rename_i hn
      rw [lget_none]
      intro e he hne
      obtain ⟨i, hi, rfl⟩ := List.getElem_of_mem he
      rcases Nat.lt_trichotomy i (pos s L) with h | h | h
      · exact less_ne (pos_lt h (List.getElem?_eq_getElem hi)) hne
      · subst h
        rw [List.getElem?_eq_getElem hi] at hx
        simp at hx
        exact hn (by rw [← hx]; exact hne)
      · have h1 := List.pairwise_iff_getElem.1 hs (pos s L) i (by omega) hi h
        have h2 : L[pos s L] = x := by rw [List.getElem?_eq_getElem (by omega)] at hx; simpa using hx
        have h3 := pos_ge hs (Nat.le_refl _) hx
        rw [h2, hne] at h1
        rw [h1] at h3
        cases h3
theorem lset_new {s : ByteArray} {v : Int} {L : List En} (h : ∀ x, L[pos s L]? = some x → x.1 ≠ s) : lset s v L = L.take (pos s L) ++ (s, v) :: L.drop (pos s L) := by
  induction L with
  | nil => rfl
  | cons y l ih =>
    unfold lset pos
    by_cases hy : lessB y.1 s = true
    · rw [if_pos hy, if_pos hy, List.take_succ_cons, List.drop_succ_cons, List.cons_append, ← ih]
      intro x hx
      refine h x ?_
      unfold pos
      rw [if_pos hy]
      simpa using hx
    · rw [if_neg hy, if_neg hy]
      have : y.1 ≠ s := h y (by unfold pos; rw [if_neg hy]; rfl)
      rw [if_neg this]
      rfl
theorem lset_old {s : ByteArray} {v : Int} {L : List En} {x : En} (h : L[pos s L]? = some x) (hx : x.1 = s) : lset s v L = L.set (pos s L) (s, v) := by
  induction L with
  | nil => simp at h
  | cons y l ih =>
    unfold lset pos
    unfold pos at h
    by_cases hy : lessB y.1 s = true
    · rw [if_pos hy] at h ⊢
      rw [if_pos hy, List.set_cons_succ, ih (by simpa using h)]
    · rw [if_neg hy] at h ⊢
      simp at h
      subst h
      rw [if_neg hy, if_pos hx]
      rfl
theorem ldel_no {s : ByteArray} {L : List En} (h : lget s L = none) : ldel s L = L := by
  rw [lget_none] at h
  unfold ldel
  rw [List.filter_eq_self]
  intro x hx
  simpa using h x hx
theorem ldel_at {s : ByteArray} {L : List En} (hs : Sorted L) {x : En} (h : L[pos s L]? = some x) (hx : x.1 = s) : ldel s L = L.eraseIdx (pos s L) := by
  induction L with
  | nil => simp at h
  | cons y l ih =>
    obtain ⟨h1, h2⟩ := hs.cons
    unfold pos
    unfold pos at h
    by_cases hy : lessB y.1 s = true
    · rw [if_pos hy] at h ⊢
      rw [List.eraseIdx_cons_succ, ← ih h1 (by simpa using h)]
      unfold ldel
      rw [List.filter_cons, if_pos (by simpa using less_ne hy)]
    · rw [if_neg hy] at h ⊢
      simp at h
      subst h
      rw [List.eraseIdx_cons_zero]
      unfold ldel
      rw [List.filter_cons, if_neg (by simpa using hx), List.filter_eq_self]
      intro z hz
      have := less_ne (h2 z hz)
      simpa using fun e => this (hx.trans e.symm)
theorem lset_length (s : ByteArray) (v : Int) (L : List En) : (lset s v L).length ≤ L.length + 1 := by
  induction L with
  | nil => simp [lset]
  | cons y l ih => unfold lset; split <;> (try split) <;> simp <;> omega
theorem ldel_length (s : ByteArray) (L : List En) : (ldel s L).length ≤ L.length := List.length_filter_le _ _

/-- How many names are at most s. -/
def nps (s : ByteArray) : List En → Nat
  | [] => 0
  | e :: l => if lessB s e.1 then 0 else nps s l + 1
theorem nps_le (s : ByteArray) (L : List En) : nps s L ≤ L.length := by
  induction L with
  | nil => exact Nat.le_refl _
  | cons x l ih => unfold nps; split <;> simp <;> omega
theorem nps_lt {s : ByteArray} {L : List En} {i : Nat} (hi : i < nps s L) {x : En} (hx : L[i]? = some x) : lessB s x.1 = false := by
  induction L generalizing i with
  | nil => simp [nps] at hi
  | cons y l ih =>
    unfold nps at hi
    split at hi
    · omega
    · rename_i h
      cases i with
      | zero => simp at hx; subst hx; simpa using h
      | succ i => exact ih (i := i) (by omega) (by simpa using hx)
theorem nps_ge {s : ByteArray} {L : List En} (hs : Sorted L) {i : Nat} (hi : nps s L ≤ i) {x : En} (hx : L[i]? = some x) : lessB s x.1 = true := by
  induction L generalizing i with
  | nil => simp at hx
  | cons y l ih =>
    obtain ⟨h1, h2⟩ := hs.cons
    unfold nps at hi
    split at hi
    · rename_i h
      cases i with
      | zero => simp at hx; subst hx; exact h
      | succ i => exact less_trans h (h2 x (List.mem_of_getElem? (by simpa using hx)))
    · cases i with
      | zero => omega
      | succ i => exact ih (i := i) h1 (by omega) (by simpa using hx)
theorem lnext_nps (s : ByteArray) (L : List En) : lnext s L = L[nps s L]? := by
  unfold lnext
  induction L with
  | nil => rfl
  | cons y l ih =>
    unfold nps
    rw [List.find?_cons]
    by_cases h : lessB s y.1 = true
    · rw [if_pos h, h]; rfl
    · rw [if_neg h, show lessB s y.1 = false by simpa using h]; simpa using ih
end Go.Proofs.Ytchjidijgdkhoaa
