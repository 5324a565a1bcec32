/- Plain facts on calls and their bytes: what bytes a call has, what calls bytes are, and that one is the other's way back. -/
import Derived.Lib.Strings
namespace Go.Proofs.Ytoomdgjppfmdlaa

abbrev Bs := List UInt8

/-- The byte that stands first; 0 where there is none. -/
def hb (l : Bs) : UInt8 := l.headD 0
def hd (l : Bs) : Nat := (hb l).toNat
theorem hd_lt (l : Bs) : hd l < 256 := (hb l).toNat_lt
theorem hd_nil : hd [] = 0 := rfl
theorem hd_cons (c : UInt8) (l : Bs) : hd (c :: l) = c.toNat := rfl
/-- The byte at a place; 0 where there is none. -/
def at_ (l : Bs) (i : Nat) : Nat := hd (l.drop i)
theorem at_lt (l : Bs) (i : Nat) : at_ l i < 256 := hd_lt _
theorem at_in {l : Bs} {i : Nat} (h : i < l.length) : at_ l i = (l[i]).toNat := by
  unfold at_ hd hb
  rw [List.drop_eq_getElem_cons h]; rfl
theorem at_out {l : Bs} {i : Nat} (h : l.length ≤ i) : at_ l i = 0 := by
  unfold at_; rw [List.drop_eq_nil_of_le h]; rfl
theorem at_drop (l : Bs) (i j : Nat) : at_ (l.drop i) j = at_ l (i + j) := by unfold at_; rw [List.drop_drop]
theorem at_app {l r : Bs} {i : Nat} (h : i < l.length) : at_ (l ++ r) i = at_ l i := by
  rw [at_in h, at_in (by rw [List.length_append]; omega), List.getElem_append_left h]
theorem at_app_r (l r : Bs) (i : Nat) : at_ (l ++ r) (l.length + i) = at_ r i := by
  unfold at_; rw [← List.drop_drop, List.drop_left]

/-- n bytes from a place on, 0 where there are none. -/
def txt (l : Bs) : Nat → Nat → Bs
  | _, 0 => []
  | i, n + 1 => UInt8.ofNat (at_ l i) :: txt l (i + 1) n
theorem txt_len (l : Bs) (i n : Nat) : (txt l i n).length = n := by
  induction n generalizing i with
  | zero => rfl
  | succ n ih => simp [txt, ih]
theorem txt_snoc (l : Bs) (i n : Nat) : txt l i (n + 1) = txt l i n ++ [UInt8.ofNat (at_ l (i + n))] := by
  induction n generalizing i with
  | zero => rfl
  | succ n ih =>
    rw [txt, ih, txt, List.cons_append, show i + 1 + n = i + (n + 1) from by omega]
theorem txt_drop (l : Bs) (i j n : Nat) : txt (l.drop i) j n = txt l (i + j) n := by
  induction n generalizing j with
  | zero => rfl
  | succ n ih => rw [txt, txt, ih, at_drop, Nat.add_assoc]
theorem txt_app (p x r : Bs) : txt (p ++ x ++ r) p.length x.length = x := by
  induction x generalizing p with
  | nil => rfl
  | cons c x ih =>
    rw [List.length_cons, txt]
    have h : at_ (p ++ c :: x ++ r) p.length = c.toNat := by
      have := at_app_r p (c :: x ++ r) 0
      rw [← List.append_assoc, Nat.add_zero] at this
      rw [this]; rfl
    have h2 := ih (p ++ [c])
    rw [List.length_append, List.length_singleton, List.append_assoc p, List.singleton_append] at h2
    rw [h, h2]
    congr 1
    exact UInt8.ofNat_toNat

/-- A call. -/
structure C where
  op : Int
  fd : Int
  fl : Int
  n : Int
  off : Int
  a : Bs
  b : Bs
theorem C.ext' {x y : C} (h1 : x.op = y.op) (h2 : x.fd = y.fd) (h3 : x.fl = y.fl) (h4 : x.n = y.n) (h5 : x.off = y.off) (h6 : x.a = y.a) (h7 : x.b = y.b) : x = y := by
  cases x; cases y; simp_all

def Num (n : Int) : Prop := -256 ≤ n ∧ n ≤ 65279
/-- It may be. -/
def May (c : C) : Prop := (1 ≤ c.op ∧ c.op ≤ 20) ∧ (-4 ≤ c.fd ∧ c.fd ≤ 35) ∧ (0 ≤ c.fl ∧ c.fl ≤ 63) ∧ Num c.n ∧ Num c.off ∧ c.a.length ≤ 63 ∧ c.b.length ≤ 63

def by_ (i : Int) : UInt8 := UInt8.ofNat i.toNat
theorem by_to {i : Int} (h0 : 0 ≤ i) (h : i < 256) : ((by_ i).toNat : Int) = i := by
  unfold by_; rw [UInt8.toNat_ofNat']; omega
def two (n : Int) : Bs := [by_ ((n + 256) / 256), by_ ((n + 256) % 256)]
def enc (c : C) : Bs := [by_ (c.op - 1), by_ (c.fd + 4), by_ c.fl] ++ two c.n ++ two c.off ++ (by_ c.a.length :: c.a) ++ (by_ c.b.length :: c.b)
theorem enc_len (c : C) : (enc c).length = 9 + c.a.length + c.b.length := by simp [enc, two]; omega

/-- The call that stands at a place, and how many bytes it takes. -/
def la (l : Bs) (i : Nat) : Nat := at_ l (i + 7) % 64
def lb (l : Bs) (i : Nat) : Nat := at_ l (i + 8 + la l i) % 64
def num (l : Bs) (i : Nat) : Int := (at_ l i * 256 + at_ l (i + 1) : Nat) - 256
def dec (l : Bs) (i : Nat) : C :=
  { op := (at_ l i % 20 : Nat) + 1, fd := (at_ l (i + 1) % 40 : Nat) - 4, fl := (at_ l (i + 2) % 64 : Nat), n := num l (i + 3), off := num l (i + 5),
    a := txt l (i + 8) (la l i), b := txt l (i + 9 + la l i) (lb l i) }
def wid (l : Bs) (i : Nat) : Nat := 9 + la l i + lb l i
theorem num_in (l : Bs) (i : Nat) : Num (num l i) := by
  have := at_lt l i; have := at_lt l (i + 1)
  unfold Num num; omega
theorem dec_may (l : Bs) (i : Nat) : May (dec l i) := by
  have := Nat.mod_lt (at_ l i) (show 20 > 0 by omega)
  have := Nat.mod_lt (at_ l (i + 1)) (show 40 > 0 by omega)
  have := Nat.mod_lt (at_ l (i + 2)) (show 64 > 0 by omega)
  have h1 : la l i < 64 := Nat.mod_lt _ (by omega)
  have h2 : lb l i < 64 := Nat.mod_lt _ (by omega)
  refine ⟨?_, ?_, ?_, num_in _ _, num_in _ _, ?_, ?_⟩
  · show (1 : Int) ≤ (at_ l i % 20 : Nat) + 1 ∧ ((at_ l i % 20 : Nat) + 1 : Int) ≤ 20; omega
  · show (-4 : Int) ≤ (at_ l (i + 1) % 40 : Nat) - 4 ∧ ((at_ l (i + 1) % 40 : Nat) - 4 : Int) ≤ 35; omega
  · show (0 : Int) ≤ (at_ l (i + 2) % 64 : Nat) ∧ ((at_ l (i + 2) % 64 : Nat) : Int) ≤ 63; omega
  · show (txt l (i + 8) (la l i)).length ≤ 63; rw [txt_len]; omega
  · show (txt l (i + 9 + la l i) (lb l i)).length ≤ 63; rw [txt_len]; omega

/-- At the place where a call's bytes stand that call is read. -/
theorem at_mid (p x r : Bs) (k : Nat) (h : k < x.length) : at_ (p ++ x ++ r) (p.length + k) = at_ x k := by
  rw [List.append_assoc, at_app_r, at_app h]
theorem dec_enc (p r : Bs) (c : C) (h : May c) : dec (p ++ enc c ++ r) p.length = c ∧ wid (p ++ enc c ++ r) p.length = (enc c).length := by
  obtain ⟨op, fd, fl, n, off, a, b⟩ := c
  obtain ⟨h1, h2, h3, h4, h5, h6, h7⟩ := h
  dsimp only at h1 h2 h3 h4 h5 h6 h7
  unfold Num at h4 h5
  generalize he : enc ⟨op, fd, fl, n, off, a, b⟩ = e
  have hlen : e.length = 9 + a.length + b.length := by rw [← he]; exact enc_len _
  have at0 : ∀ k, k < 9 + a.length + b.length → at_ (p ++ e ++ r) (p.length + k) = at_ e k := fun k hk => at_mid p e r k (by omega)
  have e0 : (at_ e 0 : Int) = op - 1 := by rw [← he]; exact by_to (i := op - 1) (by omega) (by omega)
  have e1 : (at_ e 1 : Int) = fd + 4 := by rw [← he]; exact by_to (i := fd + 4) (by omega) (by omega)
  have e2 : (at_ e 2 : Int) = fl := by rw [← he]; exact by_to (i := fl) (by omega) (by omega)
  have e3 : (at_ e 3 : Int) = (n + 256) / 256 := by rw [← he]; exact by_to (i := (n + 256) / 256) (by omega) (by omega)
  have e4 : (at_ e 4 : Int) = (n + 256) % 256 := by rw [← he]; exact by_to (i := (n + 256) % 256) (by omega) (by omega)
  have e5 : (at_ e 5 : Int) = (off + 256) / 256 := by rw [← he]; exact by_to (i := (off + 256) / 256) (by omega) (by omega)
  have e6 : (at_ e 6 : Int) = (off + 256) % 256 := by rw [← he]; exact by_to (i := (off + 256) % 256) (by omega) (by omega)
  have e7 : (at_ e 7 : Int) = a.length := by rw [← he]; exact by_to (i := a.length) (by omega) (by omega)
  have e8 : (at_ e (8 + a.length) : Int) = b.length := by
    have : e = ([by_ (op - 1), by_ (fd + 4), by_ fl] ++ two n ++ two off ++ (by_ a.length :: a)) ++ (by_ b.length :: b) := by rw [← he]; rfl
    have hl : ([by_ (op - 1), by_ (fd + 4), by_ fl] ++ two n ++ two off ++ (by_ a.length :: a)).length = 8 + a.length := by simp [two]; omega
    rw [this, ← hl]
    have := at_app_r ([by_ (op - 1), by_ (fd + 4), by_ fl] ++ two n ++ two off ++ (by_ a.length :: a)) (by_ b.length :: b) 0
    rw [Nat.add_zero] at this
    rw [this]
    exact by_to (i := b.length) (by omega) (by omega)
  have f0 := at0 0 (by omega)
  have f1 := at0 1 (by omega)
  have f2 := at0 2 (by omega)
  have f3 := at0 3 (by omega)
  have f4 := at0 4 (by omega)
  have f5 := at0 5 (by omega)
  have f6 := at0 6 (by omega)
  have f7 := at0 7 (by omega)
  have f8 := at0 (8 + a.length) (by omega)
  have hla : la (p ++ e ++ r) p.length = a.length := by unfold la; rw [f7]; omega
  have hlb : lb (p ++ e ++ r) p.length = b.length := by unfold lb; rw [hla, Nat.add_assoc, f8]; omega
  have ta : txt (p ++ e ++ r) (p.length + 8) a.length = a := by
    have h := txt_app (p ++ ([by_ (op - 1), by_ (fd + 4), by_ fl] ++ two n ++ two off ++ [by_ a.length])) a ((by_ b.length :: b) ++ r)
    have h8 : (p ++ ([by_ (op - 1), by_ (fd + 4), by_ fl] ++ two n ++ two off ++ [by_ a.length])).length = p.length + 8 := by simp [two]
    rw [h8] at h
    rw [← h]
    congr 1
    · rw [← he]; simp [enc, two]
    · rw [h]
  have tb : txt (p ++ e ++ r) (p.length + 9 + a.length) b.length = b := by
    have h := txt_app (p ++ ([by_ (op - 1), by_ (fd + 4), by_ fl] ++ two n ++ two off ++ (by_ a.length :: a) ++ [by_ b.length])) b r
    have h8 : (p ++ ([by_ (op - 1), by_ (fd + 4), by_ fl] ++ two n ++ two off ++ (by_ a.length :: a) ++ [by_ b.length])).length = p.length + 9 + a.length := by simp [two]; omega
    rw [h8] at h
    rw [← h]
    congr 1
    · rw [← he]; simp [enc, two]
    · rw [h]
  rw [Nat.add_zero] at f0
  constructor
  · refine C.ext' ?_ ?_ ?_ ?_ ?_ ?_ ?_
    · show ((at_ (p ++ e ++ r) p.length % 20 : Nat) : Int) + 1 = op; rw [f0]; omega
    · show ((at_ (p ++ e ++ r) (p.length + 1) % 40 : Nat) : Int) - 4 = fd; rw [f1]; omega
    · show ((at_ (p ++ e ++ r) (p.length + 2) % 64 : Nat) : Int) = fl; rw [f2]; omega
    · show num (p ++ e ++ r) (p.length + 3) = n; unfold num; rw [Nat.add_assoc, f3, f4]; omega
    · show num (p ++ e ++ r) (p.length + 5) = off; unfold num; rw [Nat.add_assoc, f5, f6]; omega
    · show txt (p ++ e ++ r) (p.length + 8) (la (p ++ e ++ r) p.length) = a; rw [hla]; exact ta
    · show txt (p ++ e ++ r) (p.length + 9 + la (p ++ e ++ r) p.length) (lb (p ++ e ++ r) p.length) = b; rw [hla, hlb]; exact tb
  · show 9 + la (p ++ e ++ r) p.length + lb (p ++ e ++ r) p.length = e.length
    rw [hla, hlb, hlen]

/-- At most k calls, from a place on. -/
def decs (l : Bs) : Nat → Nat → List C
  | 0, _ => []
  | k + 1, i => if i < l.length then dec l i :: decs l k (i + wid l i) else []
theorem decs_len (l : Bs) (k i : Nat) : (decs l k i).length ≤ k := by
  induction k generalizing i with
  | zero => exact Nat.le_refl _
  | succ k ih =>
    unfold decs
    by_cases h : i < l.length
    · rw [if_pos h, List.length_cons]; have := ih (i + wid l i); omega
    · rw [if_neg h]; exact Nat.zero_le _
theorem decs_may (l : Bs) (k i : Nat) : ∀ c ∈ decs l k i, May c := by
  induction k generalizing i with
  | zero => intro c h; cases h
  | succ k ih =>
    unfold decs
    by_cases h : i < l.length
    · rw [if_pos h]; intro c hc
      rcases List.mem_cons.1 hc with rfl | hc
      · exact dec_may _ _
      · exact ih _ c hc
    · rw [if_neg h]; intro c hc; cases hc
theorem decs_out (l : Bs) (k i : Nat) (h : l.length ≤ i) : decs l k i = [] := by
  cases k with
  | zero => rfl
  | succ k => unfold decs; rw [if_neg (by omega)]
theorem decs_none (l : Bs) (k : Nat) : (decs l (k + 1) 0).length = 0 ↔ l.length = 0 := by
  unfold decs
  by_cases h : 0 < l.length
  · rw [if_pos h]; simp; intro e; simp [e] at h
  · rw [if_neg h]; simp; cases l with
    | nil => rfl
    | cons => simp at h
theorem decs_take (l : Bs) (k m i : Nat) (h : k ≤ m) : (decs l m i).take k = decs l k i := by
  induction k generalizing i m with
  | zero => rfl
  | succ k ih =>
    obtain ⟨m, rfl⟩ : ∃ j, m = j + 1 := ⟨m - 1, by omega⟩
    unfold decs
    by_cases hi : i < l.length
    · rw [if_pos hi, if_pos hi, List.take_succ_cons, ih m _ (by omega)]
    · rw [if_neg hi, if_neg hi]; rfl
theorem decs_drop (l : Bs) (j k i : Nat) : decs (l.drop j) k i = decs l k (j + i) := by
  have hla : ∀ i, la (l.drop j) i = la l (j + i) := fun i => by unfold la; rw [at_drop, Nat.add_assoc]
  have hlb : ∀ i, lb (l.drop j) i = lb l (j + i) := fun i => by unfold lb; rw [at_drop, hla]; simp only [Nat.add_assoc]
  have hnum : ∀ i, num (l.drop j) i = num l (j + i) := fun i => by unfold num; rw [at_drop, at_drop]; simp only [Nat.add_assoc]
  have hdec : ∀ i, dec (l.drop j) i = dec l (j + i) := fun i => by
    unfold dec; rw [hla, hlb, hnum, hnum, at_drop, at_drop, at_drop, txt_drop, txt_drop]; simp only [Nat.add_assoc]
  induction k generalizing i with
  | zero => rfl
  | succ k ih =>
    unfold decs
    by_cases h : j + i < l.length
    · rw [if_pos h, if_pos (by rw [List.length_drop]; omega), hdec, ih]
      unfold wid; rw [hla, hlb, show j + (i + (9 + la l (j + i) + lb l (j + i))) = j + i + (9 + la l (j + i) + lb l (j + i)) from by omega]
    · rw [if_neg h, if_neg (by rw [List.length_drop]; omega)]

/-- A script's bytes. -/
def encs (L : List C) : Bs := (L.map enc).flatten
theorem encs_nil : encs [] = [] := rfl
theorem encs_cons (c : C) (L : List C) : encs (c :: L) = enc c ++ encs L := rfl
theorem encs_app (L M : List C) : encs (L ++ M) = encs L ++ encs M := by simp [encs]
theorem enc_pos (c : C) : 9 ≤ (enc c).length := by rw [enc_len]; omega
theorem encs_len (L : List C) (h : ∀ c ∈ L, May c) : (encs L).length ≤ L.length * 135 := by
  induction L with
  | nil => exact Nat.le_refl _
  | cons c L ih =>
    have hc := h c (List.mem_cons_self ..)
    have := ih fun x hx => h x (List.mem_cons_of_mem _ hx)
    rw [encs_cons, List.length_append, enc_len, List.length_cons]
    have := hc.2.2.2.2.2.1; have := hc.2.2.2.2.2.2
    omega
theorem decs_encs (p r : Bs) (L : List C) (k : Nat) (h : ∀ c ∈ L, May c) (hk : L.length ≤ k) :
    decs (p ++ encs L ++ r) k p.length = L ++ decs (p ++ encs L ++ r) (k - L.length) (p.length + (encs L).length) := by
  induction L generalizing p k with
  | nil => simp [encs]
  | cons c L ih =>
    obtain ⟨k, rfl⟩ : ∃ j, k = j + 1 := ⟨k - 1, by rw [List.length_cons] at hk; omega⟩
    obtain ⟨h1, h2⟩ := dec_enc p (encs L ++ r) c (h c (List.mem_cons_self ..))
    have e : p ++ encs (c :: L) ++ r = p ++ enc c ++ (encs L ++ r) := by rw [encs_cons]; simp
    have e2 : p ++ enc c ++ (encs L ++ r) = (p ++ enc c) ++ encs L ++ r := by simp
    rw [e]
    have hp := enc_pos c
    rw [show decs (p ++ enc c ++ (encs L ++ r)) (k + 1) p.length = dec (p ++ enc c ++ (encs L ++ r)) p.length :: decs (p ++ enc c ++ (encs L ++ r)) k (p.length + wid (p ++ enc c ++ (encs L ++ r)) p.length) from by
      rw [decs, if_pos (by simp only [List.length_append]; omega)]]
    rw [h1, h2, List.cons_append, e2]
    have := ih (p ++ enc c) k (fun x hx => h x (List.mem_cons_of_mem _ hx)) (by rw [List.length_cons] at hk; omega)
    rw [List.length_append] at this
    rw [this, List.length_cons, encs_cons, List.length_append, Nat.add_assoc, Nat.add_sub_add_right]

/-- A script's bytes, and more behind them. -/
theorem decs_ahead (L : List C) (r : Bs) (k : Nat) (h : ∀ c ∈ L, May c) (hk : L.length ≤ k) : decs (encs L ++ r) k 0 = L ++ decs r (k - L.length) 0 := by
  have := decs_encs [] r L k h hk
  simp only [List.nil_append, List.length_nil, Nat.zero_add] at this
  rw [this]
  congr 1
  have e : r = (encs L ++ r).drop (encs L).length := by rw [List.drop_left]
  conv => rhs; rw [e]
  rw [decs_drop, Nat.add_zero]
theorem decs_back (L : List C) (k : Nat) (h : ∀ c ∈ L, May c) (hk : L.length ≤ k) : decs (encs L) k 0 = L := by
  have := decs_ahead L [] k h hk
  rw [List.append_nil, decs_out [] _ 0 (Nat.le_refl _), List.append_nil] at this
  exact this

/-- Neither of two calls' bytes are a beginning of the other's. -/
theorem enc_apart (x y : C) (hx : May x) (hy : May y) : x = y ↔ (enc x).take (min (enc x).length (enc y).length) = (enc y).take (min (enc x).length (enc y).length) := by
  constructor
  · rintro rfl; rfl
  · have key : ∀ x y : C, May x → May y → (enc x).length ≤ (enc y).length → (enc x).take (min (enc x).length (enc y).length) = (enc y).take (min (enc x).length (enc y).length) → x = y := by
      intro x y hx hy hl h
      rw [Nat.min_eq_left hl, List.take_length] at h
      have e : enc y = enc x ++ (enc y).drop (enc x).length := by
        conv => lhs; rw [← List.take_append_drop (enc x).length (enc y)]
        rw [← h]
      have d1 := (dec_enc [] [] y hy).1
      have d2 := (dec_enc [] ((enc y).drop (enc x).length) x hx).1
      simp only [List.nil_append, List.append_nil, List.length_nil] at d1 d2
      rw [← e, d1] at d2
      exact d2.symm
    intro h
    rcases Nat.le_total (enc x).length (enc y).length with hl | hl
    · exact key x y hx hy hl h
    · exact (key y x hy hx hl (by rw [Nat.min_comm]; exact h.symm)).symm

/-- Shifted, and put in the low byte: a number of two bytes. -/
theorem two_len (n : Int) : (two n).length = 2 := rfl
end Go.Proofs.Ytoomdgjppfmdlaa
