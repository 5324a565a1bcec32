/- Plain facts on lists of bytes: what the components of a path's text are, and what parsing it comes to. Words for memory: a slice of strings that reads as a list, and how it is kept. 'components': it hands back the components of any text that is not too long, in memory of its own. 'dots', 'endsInDir', 'Parse': what they hand back, of any text. 'Same', 'Less': whether two paths are one; whether a text is less. 'Last': what it hands back of any path. 'Parse': what it hands back, of any text. -/
import Derived.Lib.Strings
import Derived.Test.YtnnaoldpacbagaaGreatRows
import Derived.WalkKit
import Derived.WalkSpells
import Derived.WalkLawsBesides
import Derived.Lib.Hide
import Derived.Deep.LoopGhost
import Derived.Deep.DeepMust
import Derived.Deep.DeepFit
import Derived.Deep.QuietTactic
import Derived.BigQuiet
import Derived.Test.YtnnaoldpacbagaaGreatZ01
import Derived.RegionTactic
import Derived.ChangeAlike
section
namespace Go.Proofs.YtnnaoldpacbagaaGreat.pa


abbrev Bs := List UInt8

/-- The components, one of them begun. -/
def compsA : Bs → Bs → List Bs
  | cur, [] => if cur.isEmpty then [] else [cur]
  | cur, c :: r => if c = 47 then (if cur.isEmpty then compsA [] r else cur :: compsA [] r) else compsA (cur ++ [c]) r

def comps (l : Bs) : List Bs := compsA [] l
def one (cur : Bs) : List Bs := if cur.isEmpty then [] else [cur]

theorem compsA_nil (cur : Bs) : compsA cur [] = one cur := by simp [compsA, one]
theorem compsA_slash (cur r : Bs) : compsA cur (47 :: r) = one cur ++ comps r := by
  simp only [compsA, comps, one, if_pos]
  split <;> rfl
theorem compsA_other (cur r : Bs) (c : UInt8) (h : c ≠ 47) : compsA cur (c :: r) = compsA (cur ++ [c]) r := by
  simp [compsA, h]
theorem compsA_run (x cur r : Bs) (h : ∀ c ∈ x, c ≠ 47) : compsA cur (x ++ r) = compsA (cur ++ x) r := by
  induction x generalizing cur with
  | nil => simp
  | cons c x ih =>
    rw [List.cons_append, compsA_other _ _ _ (h c (by simp)), ih _ (fun d hd => h d (by simp [hd]))]
    simp
theorem compsA_mid (a cur b : Bs) : compsA cur (a ++ 47 :: b) = compsA cur a ++ comps b := by
  induction a generalizing cur with
  | nil => rw [List.nil_append, compsA_slash, compsA_nil]
  | cons c a ih =>
    by_cases h : c = 47
    · subst h
      rw [List.cons_append, compsA_slash, compsA_slash, List.append_assoc]
      exact congrArg _ (ih [])
    · rw [List.cons_append, compsA_other _ _ _ h, compsA_other _ _ _ h, ih]
theorem comps_mid (a b : Bs) : comps (a ++ 47 :: b) = comps a ++ comps b := compsA_mid a [] b
theorem comps_nil : comps [] = [] := by simp [comps, compsA]
theorem comps_one (x : Bs) (h : ∀ c ∈ x, c ≠ 47) : comps x = one x := by
  have := compsA_run x [] [] h
  rw [List.append_nil, List.nil_append, compsA_nil] at this
  exact this
theorem one_ne (x : Bs) (h : x ≠ []) : one x = [x] := by cases x <;> simp_all [one]
theorem one_nil : one [] = [] := rfl

/-- What a component is. -/
def IsComp (l x : Bs) : Prop := x ≠ [] ∧ (∀ c ∈ x, c ≠ 47) ∧ ∀ c ∈ x, c ∈ l
theorem compsA_is (l cur m : Bs) (hc : ∀ c ∈ cur, c ≠ 47 ∧ c ∈ m) (hl : ∀ c ∈ l, c ∈ m) : ∀ x ∈ compsA cur l, IsComp m x := by
  induction l generalizing cur with
  | nil =>
    intro x hx
    rw [compsA_nil, one] at hx
    split at hx
    · simp at hx
    · rename_i hne
      simp at hx
      subst hx
      exact ⟨by simpa using hne, fun c h => (hc c h).1, fun c h => (hc c h).2⟩
  | cons c l ih =>
    intro x hx
    by_cases h : c = 47
    · subst h
      rw [compsA_slash, List.mem_append] at hx
      rcases hx with hx | hx
      · rw [one] at hx
        split at hx
        · simp at hx
        · rename_i hne
          simp at hx
          subst hx
          exact ⟨by simpa using hne, fun c h => (hc c h).1, fun c h => (hc c h).2⟩
      · exact ih [] (by simp) (fun d hd => hl d (by simp [hd])) x hx
    · rw [compsA_other _ _ _ h] at hx
      refine ih (cur ++ [c]) ?_ (fun d hd => hl d (by simp [hd])) x hx
      intro d hd
      rw [List.mem_append, List.mem_singleton] at hd
      rcases hd with hd | rfl
      · exact hc d hd
      · exact ⟨h, hl d (by simp)⟩
theorem comps_is (l : Bs) : ∀ x ∈ comps l, IsComp l x := compsA_is l [] l (by simp) (fun _ h => h)

/-- How much the components take: their bytes, and one slash between two. -/
theorem compsA_len (l cur : Bs) : (compsA cur l).length + ((compsA cur l).map List.length).sum ≤ cur.length + l.length + 1 := by
  induction l generalizing cur with
  | nil => rw [compsA_nil, one]; split <;> simp; omega
  | cons c l ih =>
    by_cases h : c = 47
    · subst h
      rw [compsA_slash]
      have := ih []
      simp only [List.length_nil, Nat.zero_add] at this
      have e : (compsA [] l) = comps l := rfl
      rw [e] at this
      rw [one]
      split
      · simp; omega
      · simp; omega
    · rw [compsA_other _ _ _ h]
      have := ih (cur ++ [c])
      simp at this ⊢
      omega
theorem compsA_count (l cur : Bs) : (compsA cur l).length ≤ cur.length + l.length := by
  induction l generalizing cur with
  | nil =>
    rw [compsA_nil]
    cases cur <;> simp [one]
  | cons c l ih =>
    by_cases h : c = 47
    · subst h
      rw [compsA_slash]
      have := ih []
      have e : (compsA [] l) = comps l := rfl
      rw [e] at this
      cases cur <;> simp [one] at this ⊢ <;> omega
    · rw [compsA_other _ _ _ h]
      have := ih (cur ++ [c])
      simp at this ⊢
      omega
theorem comps_count (l : Bs) : (comps l).length ≤ l.length := by have := compsA_count l []; rw [List.length_nil, Nat.zero_add] at this; exact this

def isDot (x : Bs) : Bool := x == [46]
def nms (l : Bs) : List Bs := (comps l).filter fun x => !(x == [46])
def lastDots (xs : List Bs) : Bool := match xs.getLast? with | some x => x == [46] || x == [46, 46] | none => false
def pdir (l : Bs) : Bool := (comps l).isEmpty || Lib.hasSuffix l [47] || lastDots (comps l)
def perr (l : Bs) : Int :=
  if l = [] then 2 else if 400 < l.length then 36 else if (0 : UInt8) ∈ l then 22
  else if ∃ x ∈ comps l, 60 < x.length then 36 else if 40 < (nms l).length then 36 else 0
def pnames (l : Bs) : List Bs := if perr l = 0 then nms l else []
def pdirE (l : Bs) : Bool := if perr l = 0 then pdir l else false

theorem perr_zero {l : Bs} : perr l = 0 ↔ l ≠ [] ∧ l.length ≤ 400 ∧ (0 : UInt8) ∉ l ∧ (∀ x ∈ comps l, x.length ≤ 60) ∧ (nms l).length ≤ 40 := by
  unfold perr
  by_cases h1 : l = []
  · simp [h1]
  · by_cases h2 : 400 < l.length
    · simp [h1, h2]
      omega
    · by_cases h3 : (0 : UInt8) ∈ l
      · simp [h1, h2, h3]
      · by_cases h4 : ∃ x ∈ comps l, 60 < x.length
        · obtain ⟨x, hx, hl⟩ := h4
          have h4' : ∃ x ∈ comps l, 60 < x.length := ⟨x, hx, hl⟩
          rw [if_neg h1, if_neg h2, if_neg h3, if_pos h4']
          refine ⟨by simp, fun ⟨_, _, _, h, _⟩ => ?_⟩
          have := h x hx
          omega
        · have h4' : ∀ x ∈ comps l, x.length ≤ 60 := fun x hx => by
            rcases Nat.lt_or_ge 60 x.length with h | h
            · exact absurd ⟨x, hx, h⟩ h4
            · exact h
          by_cases h5 : 40 < (nms l).length
          · rw [if_neg h1, if_neg h2, if_neg h3, if_neg h4, if_pos h5]
            exact ⟨by simp, fun ⟨_, _, _, _, h⟩ => by omega⟩
          · rw [if_neg h1, if_neg h2, if_neg h3, if_neg h4, if_neg h5]
            exact ⟨fun _ => ⟨h1, by omega, h3, h4', by omega⟩, fun _ => rfl⟩
theorem pnames_le (l : Bs) : (pnames l).length ≤ 40 := by
  unfold pnames
  split
  · rename_i h; exact (perr_zero.1 h).2.2.2.2
  · simp
theorem pnames_ok {l : Bs} (h : perr l = 0) : pnames l = nms l := by simp [pnames, h]
theorem pdirE_ok {l : Bs} (h : perr l = 0) : pdirE l = pdir l := by simp [pdirE, h]
theorem pnames_no {l : Bs} (h : perr l ≠ 0) : pnames l = [] := by simp [pnames, h]
theorem pdirE_no {l : Bs} (h : perr l ≠ 0) : pdirE l = false := by simp [pdirE, h]

/-- The loop over the components, so far. -/
def gath (xs : List Bs) : List Bs := xs.filter fun x => !(x == [46])
theorem gath_snoc (xs : List Bs) (x : Bs) : gath (xs ++ [x]) = gath xs ++ if x = [46] then [] else [x] := by
  unfold gath
  rw [List.filter_append]
  by_cases h : x = [46] <;> simp [h]
theorem gath_le (xs : List Bs) : (gath xs).length ≤ xs.length := List.length_filter_le _ _
theorem gath_comps (l : Bs) : gath (comps l) = nms l := rfl
end Go.Proofs.YtnnaoldpacbagaaGreat.pa
end
section
namespace Go.Proofs.YtnnaoldpacbagaaGreat.pa
open Go.RowKit


/-- The string value of a list of bytes. -/
abbrev Sv (x : Bs) : Value := .string ⟨x.toArray⟩

theorem addr_block (a : Addr) (n : Nat) : (a.add n).block = a.block := by unfold Addr.add; split <;> rfl
theorem addr_add (a : Addr) (i j : Nat) : (a.add i).add j = a.add (i + j) := by
  unfold Addr.add
  by_cases hi : i = 0 <;> by_cases hj : j = 0 <;> simp [hi, hj, Nat.add_assoc]

/-- In w the slice at A of xs.length strings reads as xs; it lies below block B. -/
def Strs (w : World) (B : Nat) (A : Option Addr) (xs : List Bs) : Prop :=
  0 < xs.length → ∃ ad, A = some ad ∧ ad.block < B ∧ ∀ j x, xs[j]? = some x → w.cell? (ad.add j) = some (Sv x)

theorem Strs.nil (w : World) (B : Nat) (A : Option Addr) : Strs w B A [] := fun h => absurd h (by simp)
theorem Strs.keep {w w' : World} {B : Nat} {A : Option Addr} {xs : List Bs} (h : Strs w B A xs) (hk : ∀ p : Addr, p.block < B → w'.cell? p = w.cell? p) : Strs w' B A xs := fun hn => by
  obtain ⟨ad, e, hb, hc⟩ := h hn
  exact ⟨ad, e, hb, fun j x hx => (hk _ (by rw [addr_block]; exact hb)).trans (hc j x hx)⟩
theorem Strs.below {w w' : World} {B : Nat} {A : Option Addr} {xs : List Bs} (h : Strs w B A xs) (hb : Below B w w') : Strs w' B A xs := h.keep fun _ hp => hb.cell hp
theorem Strs.more {w : World} {B B' : Nat} {A : Option Addr} {xs : List Bs} (h : Strs w B A xs) (hB : B ≤ B') : Strs w B' A xs := fun hn => by
  obtain ⟨ad, e, hb, hc⟩ := h hn
  exact ⟨ad, e, by omega, hc⟩
theorem Strs.get {w : World} {B : Nat} {A : Option Addr} {xs : List Bs} (h : Strs w B A xs) {k : Nat} (hk : k < xs.length) :
    ∃ ad x, A = some ad ∧ ad.block < B ∧ xs[k]? = some x ∧ w.cell? (ad.add k) = some (Sv x) := by
  obtain ⟨ad, e, hb, hc⟩ := h (by omega)
  exact ⟨ad, xs[k], e, hb, List.getElem?_eq_getElem hk, hc k _ (List.getElem?_eq_getElem hk)⟩

/-- What a call hands back that has made a slice of strings: it owns them. -/
def Own (w' : World) (B : Nat) (A : Option Addr) (c : Nat) (xs : List Bs) : Prop := w'.ownsRow B 9 1 (.slice A xs.length c) xs.length (xs.map Sv)
theorem Own.strs {w' : World} {B : Nat} {A : Option Addr} {c : Nat} {xs : List Bs} (h : Own w' B A c xs) : Strs w' w'.heap.size A xs := by
  intro hn
  rcases h.2 with ⟨e, h0⟩ | ⟨g, cap, cur, hv, hb, hg, _⟩
  · omega
  · injection hv with hA
    subst hA
    refine ⟨_, rfl, (Array.getElem?_eq_some_iff.1 hg).1, fun j x hx => ?_⟩
    exact World.ownsRow.cells h (g := g) rfl j (Sv x) (by rw [List.getElem?_map, hx]; rfl)
theorem Own.keep {w w' : World} {B : Nat} {A : Option Addr} {c : Nat} {xs : List Bs} (h : Own w B A c xs) (hb : Below w.heap.size w w') : Own w' B A c xs := by
  unfold Own at h ⊢
  exact h.kept (row := none) ⟨hb.os, hb.tape, hb.output, hb.size, fun k hk _ => hb.block k hk⟩ (by cases hv : (Value.slice A xs.length c).ownBlock <;> simp)

theorem own_base {w : World} {B B' : Nat} {e : TypeId} {size : Nat} {v : Value} {n : Nat} {xs : List Value} (h : w.ownsRow B e size v n xs) (hB : B' ≤ B) : w.ownsRow B' e size v n xs := by
  refine ⟨h.1, ?_⟩
  rcases h.2 with h2 | ⟨g, cap, cur, hv, hb, r⟩
  · exact .inl h2
  · exact .inr ⟨g, cap, cur, hv, by omega, r⟩
theorem Own.base {w : World} {B B' : Nat} {A : Option Addr} {c : Nat} {xs : List Bs} (h : Own w B A c xs) (hB : B' ≤ B) : Own w B' A c xs := own_base h hB
theorem Own.set {w : World} {B : Nat} {A : Option Addr} {c : Nat} {xs : List Bs} (h : Own w B A c xs) {a : Addr} (ha : a.block < B) (u : Value) : Own (w.setCell a u) B A c xs := ownsRow_setCell_below h ha u

/-- 'ownsRow' of strings, its value taken apart. -/
theorem own_form {w : World} {B n : Nat} {v : Value} {xs : List Bs} (h : w.ownsRow B 9 1 v n (xs.map Sv)) : ∃ A c, v = .slice A xs.length c ∧ Own w B A c xs ∧ n = xs.length := by
  have hn : n = xs.length := by have := h.1; simp at this; omega
  subst hn
  rcases h.2 with ⟨e, h0⟩ | ⟨g, cap, cur, hv, _⟩
  · refine ⟨none, 0, by rw [e, h0], ?_, rfl⟩
    unfold Own
    rw [h0, ← e, ← h0]
    exact h
  · refine ⟨_, cap, hv, ?_, rfl⟩
    unfold Own
    rw [← hv]
    exact h

theorem below_drewN {B : Nat} {a w : World} (h : Below B a w) (n : Nat) : Below B a (w.drewN n) := ⟨h.os, h.tape, h.output, h.size, h.block⟩
theorem own_em (v : Value) : v.ownBlock = none ∨ v.ownBlock ≠ none := Classical.em _
theorem drop_take_snoc (l : Bs) (i j : Nat) (hij : i ≤ j) (hj : j < l.length) : (l.drop i).take (j + 1 - i) = (l.drop i).take (j - i) ++ [l[j]] := by
  rw [show j + 1 - i = (j - i) + 1 from by omega, List.take_succ_eq_append_getElem (by rw [List.length_drop]; omega)]
  simp [List.getElem_drop, Nat.add_sub_cancel' hij]

/-- A box of two cells that the call made ahead of a callee: as it was. -/
theorem box_kept {w w1 : World} {v0 v1 : Value} {t : TypeId} {B : Nat} (hB : w.heap.size < B) (hb : Below B (w.alloc (.cells #[v0, v1] t)) w1) :
    w1.cell? ⟨w.heap.size, 0, none⟩ = some v0 ∧ w1.cell? ⟨w.heap.size, 1, none⟩ = some v1 ∧ w1.frozen? ⟨w.heap.size, 0, none⟩ = false ∧ w1.frozen? ⟨w.heap.size, 1, none⟩ = false ∧ w.heap.size + 1 ≤ w1.heap.size := by
  refine ⟨?_, ?_, ?_, ?_, ?_⟩
  · rw [hb.cell (p := ⟨w.heap.size, 0, none⟩) hB]; simp
  · rw [hb.cell (p := ⟨w.heap.size, 1, none⟩) hB]; simp
  · rw [hb.frozen (p := ⟨w.heap.size, 0, none⟩) hB]; simp
  · rw [hb.frozen (p := ⟨w.heap.size, 1, none⟩) hB]; simp
  · have := hb.size; simpa using this

set_option maxRecDepth 100000 in
theorem info9 : (Tryz.prog.info? 9).map (fun i => (i.zero, i.size, i.bytes)) = some (some (.string ByteArray.empty), 1, 16) := by kernel_rfl
set_option maxRecDepth 100000 in
theorem info5 : (Tryz.prog.info? 5).map (fun i => (i.zero, i.size, i.bytes)) = some (some (.int .u8 0), 1, 1) := by kernel_rfl
end Go.Proofs.YtnnaoldpacbagaaGreat.pa
end
section
namespace Go.Proofs.YtnnaoldpacbagaaGreat.pa
open Go.RowKit


def OwnE (w : World) (xs : List Bs) (e : Ending) (w' : World) : Prop := ∃ A c, e = .returned (.slice A xs.length c) ∧ Own w' w.heap.size A c xs ∧ Below w.heap.size w w'

theorem ownE_of {w w' : World} {v : Value} {n : Nat} {xs : List Bs} (h : w'.ownsRow w.heap.size 9 1 v n (xs.map Sv)) (hb : Below w.heap.size w w') : OwnE w xs (.returned v) w' := by
  obtain ⟨A, c, rfl, ho, -⟩ := own_form h
  exact ⟨A, c, rfl, ho, hb⟩

theorem ex_list (s : ByteArray) (k j : Nat) : Value.string (s.extract k j) = Sv ((s.data.toList.drop k).take (j - k)) := by rw [Lib.extract_eq]

/-- One component more, in front of a slash. -/
theorem comps_step (L : Bs) (k j : Nat) (hkj : k ≤ j) (hj : j < L.length) (hn : ∀ c ∈ (L.drop k).take (j - k), c ≠ 47) (h : L[j] = 47) :
    comps (L.drop k) = one ((L.drop k).take (j - k)) ++ comps (L.drop (j + 1)) := by
  have e : L.drop k = (L.drop k).take (j - k) ++ 47 :: L.drop (j + 1) := by
    have h1 : (L.drop k).drop (j - k) = 47 :: L.drop (j + 1) := by
      rw [List.drop_drop, show k + (j - k) = j from by omega, List.drop_eq_getElem_cons hj, h]
    rw [← h1, List.take_append_drop]
  conv => lhs; rw [e]
  rw [comps_mid, comps_one _ hn]
theorem comps_last (L : Bs) (k : Nat) (hk : k < L.length) (hn : ∀ c ∈ (L.drop k).take (L.length - k), c ≠ 47) : comps (L.drop k) = [(L.drop k).take (L.length - k)] := by
  have e : L.drop k = (L.drop k).take (L.length - k) := (List.take_of_length_le (by simp)).symm
  conv => lhs; rw [e]
  rw [comps_one _ hn, one_ne]
  intro h
  have := congrArg List.length h
  simp at this
  omega

theorem getD_data (s : ByteArray) (j : Nat) (h : j < s.size) : s[j] = s.data.toList[j]'(by rw [← Lib.size_eq]; exact h) := by rfl

set_option maxRecDepth 100000 in
set_option maxHeartbeats 1000000 in
theorem components_any (s : ByteArray) (w : World) (hs : s.size ≤ 400) :
    Calls Tryz.prog 206 #[.string s] w (OwnE w (comps s.data.toList)) := by
  obtain ⟨i0, hi, hz0, hz1, hz2⟩ := info_parts info9
  have HL := Lib.hid (Lib.size_eq s)
  go_enter Tryz.func206, Tryz.ntmps206
  go_wp2
  go_step3
  go_wp2
  go_step3
  go_wp2
  go_loopg [3, 4] s.size (fun g v i wr => ∃ (k : Nat) (pre : List Bs), k ≤ s.size ∧ g + k = s.size ∧ i = .int .i64 k ∧ Hid (comps s.data.toList = pre ++ comps (s.data.toList.drop k)) ∧ pre.length ≤ k ∧
      wr.ownsRow w.heap.size 9 1 v pre.length (pre.map Sv) ∧ Below w.heap.size w wr)
  case atStart => exact ⟨0, [], by omega, by omega, rfl, (by show _ = _; simp), by simp, World.ownsRow_nil _ _ _ _, Below.refl _ _⟩
  case round =>
    obtain ⟨k, pre, hk, hg, rfl, HC, hp, hown, hb⟩ := hrel
    by_cases hlt : k < s.size
    · go_wp2
      go_loopg [3, 4, 5] s.size (fun g2 v3 v4 e wy => u3 = v3 ∧ v4 = .int .i64 k ∧ ∃ j : Nat, k ≤ j ∧ j ≤ s.size ∧ g2 + j = s.size + k ∧ e = .int .i64 j ∧ Hid (∀ c ∈ (s.data.toList.drop k).take (j - k), c ≠ 47) ∧ wr = wy)
      case atStart => exact ⟨rfl, rfl, k, Nat.le_refl _, hk, by omega, rfl, (by show ∀ _, _; simp), rfl⟩
      case round =>
        obtain ⟨rfl, rfl, j, hkj, hj, hg2, rfl, HN, rfl⟩ := hrel
        by_cases hjl : j < s.size
        · have hjL : j < s.data.toList.length := by rw [← Lib.size_eq]; exact hjl
          by_cases h47 : s[j] = 47
          · have hT : (((s[j]).toNat : Int) != 47) = false := by rw [h47]; rfl
            have HS := Lib.hid (comps_step s.data.toList k j hkj hjL HN.out (by rw [← getD_data s j hjl]; exact h47))
            clear h47
            by_cases hjk : k < j
            · go_wp2_with (at_builtin; refine wpList_append_own _ rfl (.tmp 24) (.tmp 29) 43 rfl w.heap.size 9 i0 _ 1 16 Tryz.underlying43 hi hz0 hz1 hz2 rfl (by decide) u3 pre.length (pre.map Sv) rfl (hown.alloc _) ⟨wr.heap.size, 0, none⟩ 1 1 [.string (s.extract k j)] rfl rfl (cell_one_new _ _ _) (by intro u hu; simp at hu; subst hu; rfl) (by unfold maxLen; omega) (by omega) (by have := hb.size; simp; omega) ?_; intro v1 w1 hown1 hgrow1 _)
              go_roundg (s.size - (j + 1))
              case measure => omega
              case rel =>
                have HS' := HS.out
                rw [one_ne _ (by intro h; have := congrArg List.length h; simp at this; omega)] at HS'
                refine ⟨j + 1, pre ++ [(s.data.toList.drop k).take (j - k)], by omega, by omega, by go_num, ?_, by simp; omega, ?_, ?_⟩
                · show _ = _
                  rw [HC.out, HS', List.append_assoc]
                · rw [ex_list] at hown1
                  simpa using hown1
                · exact (hb.alloc hb.size _).grown hgrow1 (by have := hb.size; simp; omega) (fun g hg' => (hown.lt g hg').1)
            · have hje : j = k := by omega
              subst hje
              go_wp2
              go_roundg (s.size - (j + 1))
              case measure => omega
              case rel =>
                have HS' := HS.out
                rw [Nat.sub_self, List.take_zero, one_nil, List.nil_append] at HS'
                exact ⟨j + 1, pre, by omega, by omega, by go_num, (by show _ = _; rw [HC.out, HS']), by omega, hown, hb⟩
          · have hT : (((s[j]).toNat : Int) != 47) = true := by
              simp only [bne_iff_ne, ne_eq]
              intro h
              exact h47 (UInt8.toNat_inj.1 (by have : s[j].toNat = 47 := by omega
                                               simpa using this))
            have HN' : Hid (∀ c ∈ (s.data.toList.drop k).take (j + 1 - k), c ≠ 47) := by
              show ∀ _, _
              rw [drop_take_snoc _ _ _ hkj hjL]
              intro c hc
              rw [List.mem_append, List.mem_singleton] at hc
              rcases hc with hc | rfl
              · exact HN.out c hc
              · rw [← getD_data s j hjl]; exact h47
            clear h47
            go_wp2
            go_roundg (gk - 1)
            case measure => omega
            case rel => exact ⟨rfl, rfl, j + 1, by omega, by omega, by omega, by go_num, HN', rfl⟩
        · have hje : j = s.size := by omega
          have HS := Lib.hid (comps_last s.data.toList k (by rw [← Lib.size_eq]; exact hlt) (by rw [← Lib.size_eq, ← hje]; exact HN.out))
          clear hjl
          have hjl : ¬ ((j : Int) < (s.size : Int)) := by omega
          clear hje
          go_wp2_with (at_builtin; refine wpList_append_own _ rfl (.tmp 33) (.tmp 37) 43 rfl w.heap.size 9 i0 _ 1 16 Tryz.underlying43 hi hz0 hz1 hz2 rfl (by decide) u3 pre.length (pre.map Sv) rfl (hown.alloc _) ⟨wr.heap.size, 0, none⟩ 1 1 [.string (s.extract k s.size)] rfl rfl (cell_one_new _ _ _) (by intro u hu; simp at hu; subst hu; rfl) (by unfold maxLen; omega) (by omega) (by have := hb.size; simp; omega) ?_; intro v1 w1 hown1 hgrow1 _)
          try rw [Exit.noGoto_ret]
          go_ret
          have hfin : comps s.data.toList = pre ++ [(s.data.toList.drop k).take (s.size - k)] := by rw [HC.out, HS.out, HL.out]
          rw [hfin]
          rw [ex_list] at hown1
          refine ownE_of (n := pre.length + 1) (by simpa using hown1) ?_
          exact (hb.alloc hb.size _).grown hgrow1 (by have := hb.size; simp; omega) (fun g hg' => (hown.lt g hg').1)
    · have hje : k = s.size := by omega
      have hfin : comps s.data.toList = pre := by
        rw [HC.out, List.drop_eq_nil_of_le (by rw [← Lib.size_eq]; omega), comps_nil, List.append_nil]
      have HF := Lib.hid hfin
      have hkl : ¬ ((k : Int) < (s.size : Int)) := by omega
      clear hje hfin hlt
      go_wp2
      try rw [Exit.noGoto_ret]
      go_ret
      rw [HF.out]
      exact ownE_of hown hb
end Go.Proofs.YtnnaoldpacbagaaGreat.pa
end
section
namespace Go.Proofs.YtnnaoldpacbagaaGreat.pa
open Go.RowKit


theorem sv_list (x : Bs) : (⟨x.toArray⟩ : ByteArray).toList = x := by rw [Lib.toList_data]
def dotB (x : Bs) : Bool := x == [46] || x == [46, 46]

set_option maxRecDepth 100000 in
set_option maxHeartbeats 400000 in
theorem dots_any (x : Bs) (w : World) : Calls Tryz.prog 209 #[Sv x] w fun e w' => e = .returned (.bool (dotB x)) ∧ w = w' := by
  go_enter Tryz.func209, Tryz.ntmps209
  go_wp2
  all_goals (go_ret; exact ⟨by simp_all [dotB], rfl⟩)

def endB (L : Bs) (xs : List Bs) : Bool := xs.isEmpty || Lib.hasSuffix L [47] || lastDots xs

set_option maxRecDepth 100000 in
set_option maxHeartbeats 400000 in
theorem ends_none (s : ByteArray) (A : Option Addr) (c : Nat) (w : World) :
    Calls Tryz.prog 207 #[.string s, .slice A 0 c] w fun e w' => e = .returned (.bool (endB s.data.toList [])) ∧ w = w' := by
  go_enter Tryz.func207, Tryz.ntmps207
  go_wp2
  go_ret
  exact ⟨rfl, rfl⟩

set_option maxRecDepth 100000 in
set_option maxHeartbeats 400000 in
theorem ends_some (s : ByteArray) (A : Option Addr) (c : Nat) (ys : List Bs) (x : Bs) (B : Nat) (w : World) (hs : s.size ≤ 400) (hl : ys.length ≤ 400) (h : Strs w B A (ys ++ [x])) :
    Calls Tryz.prog 207 #[.string s, .slice A (ys.length + 1) c] w fun e w' => e = .returned (.bool (endB s.data.toList (ys ++ [x]))) ∧ w = w' := by
  obtain ⟨ad, y, rfl, _, hy, hcell⟩ := h.get (k := ys.length) (by simp)
  rw [List.getElem?_append_right (Nat.le_refl _)] at hy
  simp at hy
  subst hy
  have HF := Lib.hid (show endB s.data.toList (ys ++ [x]) = (Lib.hasSuffix s.data.toList [47] || dotB x) by unfold endB; rw [show (ys ++ [x]).isEmpty = false by cases ys <;> rfl]; simp [lastDots, dotB])
  clear h
  go_enter Tryz.func207, Tryz.ntmps207
  go_wp2_with (first
    | (go_at_call 211; refine (Tryz.strings_HasSuffix _ _ _ (by omega)).mono ?_; rintro e w' ⟨rfl, rfl⟩)
    | (go_at_call 209; refine (dots_any _ _).mono ?_; rintro e w' ⟨rfl, rfl⟩))
  all_goals (go_ret; refine ⟨?_, rfl⟩; rw [HF.out])
  · have h2 : (((ys.length : Int) + 1 == 0) = true ∨ Lib.hasSuffix s.data.toList [47] = true) := by assumption
    have h3 : Lib.hasSuffix s.data.toList [47] = true := by
      rcases h2 with h2 | h2
      · rw [beq_iff_eq] at h2; omega
      · exact h2
    rw [h3]; rfl
  · have h2 : (((ys.length : Int) + 1 == 0) = false ∧ Lib.hasSuffix s.data.toList [47] = false) := by assumption
    rw [h2.2]; rfl

set_option maxRecDepth 100000 in
theorem ends_any (s : ByteArray) (A : Option Addr) (n c : Nat) (xs : List Bs) (B : Nat) (w : World) (hn : n = xs.length) (hs : s.size ≤ 400) (hl : xs.length ≤ 400) (h : Strs w B A xs) :
    Calls Tryz.prog 207 #[.string s, .slice A n c] w fun e w' => e = .returned (.bool (endB s.data.toList xs)) ∧ w = w' := by
  subst hn
  rcases List.eq_nil_or_concat xs with rfl | ⟨ys, x, rfl⟩
  · exact ends_none s A c w
  · rw [List.concat_eq_append] at h hl ⊢
    rw [List.length_append]
    exact ends_some s A c ys x B w hs (by simp at hl; omega) h

end Go.Proofs.YtnnaoldpacbagaaGreat.pa
end
section
namespace Go.Proofs.YtnnaoldpacbagaaGreat.pa
open Go.RowKit


/-- A path as a value. -/
abbrev Pv (A : Option Addr) (n c : Nat) (d : Bool) : Value := .agg #[.slice A n c, .bool d]
def sameB (xs ys : List Bs) (d d' : Bool) : Bool := d == d' && xs == ys

theorem same_len {xs ys : List Bs} {d d' : Bool} (h : ¬ (d = d' ∧ xs.length = ys.length)) : sameB xs ys d d' = false := by
  unfold sameB
  rw [Bool.eq_false_iff]
  intro hh
  simp at hh
  exact h ⟨hh.1, by rw [hh.2]⟩

def SameE (w : World) (xs ys : List Bs) (d d' : Bool) (e : Ending) (w' : World) : Prop := e = .returned (.bool (sameB xs ys d d')) ∧ Below w.heap.size w w'

end Go.Proofs.YtnnaoldpacbagaaGreat.pa
end
section
namespace Go.Proofs.YtnnaoldpacbagaaGreat.pa
open Go.RowKit


def LastNo (w : World) (e : Ending) (w' : World) : Prop := e = .returned (.tuple #[Pv none 0 0 false, Sv [], .int .i64 16]) ∧ Below w.heap.size w w'
def LastYes (w : World) (ys : List Bs) (x : Bs) (e : Ending) (w' : World) : Prop :=
  ∃ A c, e = .returned (.tuple #[Pv A ys.length c true, Sv x, .int .i64 0]) ∧ Own w' w.heap.size A c ys ∧ Below w.heap.size w w'

set_option maxRecDepth 100000 in
set_option maxHeartbeats 400000 in
theorem last_none (A : Option Addr) (c : Nat) (d : Bool) (w : World) : Calls Tryz.prog 201 #[Pv A 0 c d] w (LastNo w) := by
  go_enter Tryz.func201, Tryz.ntmps201
  go_wp2
  exact bodyPost_ret (v := .tuple #[Pv none 0 0 false, Sv [], .int .i64 16]) (by simp [results, Tryz.results201, go_sem]) rfl ⟨rfl, ((Below.refl _ _).alloc (Nat.le_refl _) _).alloc (by simp) _⟩

theorem last_get {w : World} {B : Nat} {A : Option Addr} {ys : List Bs} {x : Bs} (h : Strs w B A (ys ++ [x])) :
    ∃ ad, A = some ad ∧ ad.block < B ∧ w.cell? (ad.add ys.length) = some (Sv x) ∧ ∀ (j : Nat) y, ys[j]? = some y → w.cell? (ad.add j) = some (Sv y) := by
  obtain ⟨ad, rfl, hb, hc⟩ := h (by simp)
  refine ⟨ad, rfl, hb, hc _ _ (by simp), fun j y hy => hc j y ?_⟩
  rw [List.getElem?_append_left (List.getElem?_eq_some_iff.1 hy).1]
  exact hy

set_option maxRecDepth 100000 in
set_option maxHeartbeats 400000 in
theorem last_dots (A : Option Addr) (c B : Nat) (d : Bool) (ys : List Bs) (x : Bs) (w : World) (hl : ys.length ≤ 65536) (hB : B ≤ w.heap.size) (hx : Strs w B A (ys ++ [x])) (hd : dotB x = true) :
    Calls Tryz.prog 201 #[Pv A (ys.length + 1) c d] w (LastNo w) := by
  obtain ⟨ad, rfl, hb, hcell, -⟩ := last_get hx
  have hc1 : ∀ o1 o2, ((w.alloc o1).alloc o2).cell? (ad.add ys.length) = some (Sv x) := fun o1 o2 => by
    rw [World.cell?_alloc_lt _ _ _ (by rw [addr_block]; simp; omega), World.cell?_alloc_lt _ _ _ (by rw [addr_block]; omega)]; exact hcell
  clear hcell hx
  generalize ys.length = n at *
  go_enter Tryz.func201, Tryz.ntmps201
  go_wp2_with (go_at_call 209; refine (dots_any _ _).mono ?_; rintro e w' ⟨rfl, rfl⟩)
  exact bodyPost_ret (v := .tuple #[Pv none 0 0 false, Sv [], .int .i64 16]) (by simp [results, Tryz.results201, go_sem]) rfl ⟨rfl, ((Below.refl _ _).alloc (Nat.le_refl _) _).alloc (by simp) _⟩

set_option maxRecDepth 100000 in
set_option maxHeartbeats 1000000 in
theorem last_yes (A : Option Addr) (c B : Nat) (d : Bool) (ys : List Bs) (x : Bs) (w : World) (hl : ys.length ≤ 65536) (hc : ys.length + 1 ≤ c) (hB : B ≤ w.heap.size) (hx : Strs w B A (ys ++ [x])) (hd : dotB x = false) :
    Calls Tryz.prog 201 #[Pv A (ys.length + 1) c d] w (LastYes w ys x) := by
  obtain ⟨i0, hi, hz0, hz1, hz2⟩ := info_parts info9
  obtain ⟨ad, rfl, hb, hcell, hcs⟩ := last_get hx
  have hk : ∀ o1 o2 p, p.block < B → ((w.alloc o1).alloc o2).cell? p = w.cell? p := fun o1 o2 p hp => by
    rw [World.cell?_alloc_lt _ _ _ (by simp; omega), World.cell?_alloc_lt _ _ _ (by omega)]
  have hc1 : ∀ o1 o2, ((w.alloc o1).alloc o2).cell? (ad.add ys.length) = some (Sv x) := fun o1 o2 => (hk _ _ _ (by rw [addr_block]; exact hb)).trans hcell
  have HC := Lib.hid (show ∀ o1 o2 (j : Nat) u, (ys.map Sv)[j]? = some u → ((w.alloc o1).alloc o2).cell? (ad.add j) = some u by
    intro o1 o2 j u hu
    rw [List.getElem?_map, Option.map_eq_some_iff] at hu
    obtain ⟨y, hy, rfl⟩ := hu
    exact (hk _ _ _ (by rw [addr_block]; exact hb)).trans (hcs j y hy))
  clear hcell hx hcs hk
  obtain ⟨n, hn⟩ : ∃ n, n = ys.length := ⟨_, rfl⟩
  have HN := Lib.hid hn
  rw [← hn] at hc1 hl hc ⊢
  clear hn
  go_enter Tryz.func201, Tryz.ntmps201
  go_wp2_with (first
    | (go_at_call 209; refine (dots_any _ _).mono ?_; rintro e w' ⟨rfl, rfl⟩)
    | (at_builtin; go_must (refine wpList_append_own _ rfl _ (.tmp 25) 43 rfl (w.heap.size + 2) 9 i0 _ 1 16 Tryz.underlying43 hi hz0 hz1 hz2 rfl (by decide) (.slice none 0 0) 0 [] rfl (World.ownsRow_nil _ _ _ _) ad n c (ys.map Sv) rfl (by rw [List.length_map, ← HN.out]; omega) (HC.out _ _) (by intro u hu; simp at hu; obtain ⟨_, _, rfl⟩ := hu; rfl) (by unfold maxLen; omega) (by omega) (by simp) ?_); intro v1 w2 hown1 hgrow1 _))
  have hb2 : Below (w.heap.size + 2) ((w.alloc (.cells #[.slice (some ad) (n + 1) c, .bool d] 278)).alloc (.cells #[.slice none 0 0, .bool false] 278)) w2 :=
    (Below.refl _ _).grown hgrow1 (by simp) (fun k hk => by simp [Value.ownBlock] at hk)
  have hb1 : Below w.heap.size w w2 := (((Below.refl _ _).alloc (Nat.le_refl _) _).alloc (by simp) _).trans (hb2.mono (by omega))
  have sz : w.heap.size + 2 ≤ w2.heap.size := by have := hb2.size; simpa using this
  have q0 : w2.cell? ⟨w.heap.size, 0, none⟩ = some (.slice (some ad) (n + 1) c) := by rw [hb2.cell (p := ⟨w.heap.size, 0, none⟩) (by simp)]; simp [World.cell?_alloc_past]
  have r0 : w2.cell? ⟨w.heap.size + 1, 0, none⟩ = some (.slice none 0 0) := by rw [hb2.cell (p := ⟨w.heap.size + 1, 0, none⟩) (by simp)]; simp
  have r1 : w2.cell? ⟨w.heap.size + 1, 1, none⟩ = some (.bool false) := by rw [hb2.cell (p := ⟨w.heap.size + 1, 1, none⟩) (by simp)]; simp
  have f0 : w2.frozen? ⟨w.heap.size + 1, 0, none⟩ = false := by rw [hb2.frozen (p := ⟨w.heap.size + 1, 0, none⟩) (by simp)]; simp
  have f1 : w2.frozen? ⟨w.heap.size + 1, 1, none⟩ = false := by rw [hb2.frozen (p := ⟨w.heap.size + 1, 1, none⟩) (by simp)]; simp
  have hc2 : w2.cell? (ad.add n) = some (Sv x) := by rw [hb2.cell (p := ad.add n) (by rw [addr_block]; omega)]; exact hc1 _ _
  rw [List.nil_append] at hown1
  obtain ⟨A1, c1, rfl, hown, -⟩ := own_form hown1
  clear hc1 hb2 hgrow1 hown1
  have hc3 : ∀ u1 u2, ((w2.setCell ⟨w.heap.size + 1, 0, none⟩ u1).setCell ⟨w.heap.size + 1, 1, none⟩ u2).cell? (ad.add n) = some (Sv x) := fun u1 u2 => by
    have hne : ∀ i, ad.add n ≠ ⟨w.heap.size + 1, i, none⟩ := fun i e => by
      have := congrArg Addr.block e
      rw [addr_block] at this
      simp at this
      omega
    rw [World.cell?_setCell_other _ _ _ _ (fun e => hne _ e.symm), World.cell?_setCell_other _ _ _ _ (fun e => hne _ e.symm)]
    exact hc2
  go_region
  all_goals go_wp2
  refine bodyPost_ret (v := .tuple #[Pv A1 ys.length c1 true, Sv x, .int .i64 0]) (by simp [results, Tryz.results201, go_sem, r0, r1]) rfl ⟨A1, c1, rfl, ?_, ?_⟩
  · exact ((hown.set (by simp) _).set (by simp) _).base (by omega)
  · exact ((hb1.setCell (by simp) _).setCell (by simp) _).drew

/-- What 'Last' hands back of any path. -/
def lastNo (xs : List Bs) : Bool := match xs.getLast? with | some x => dotB x | none => true
set_option maxRecDepth 100000 in
theorem last_any (A : Option Addr) (n c B : Nat) (d : Bool) (xs : List Bs) (w : World) (hn : n = xs.length) (hl : n ≤ 65536) (hc : n ≤ c) (hB : B ≤ w.heap.size) (hx : Strs w B A xs) :
    (lastNo xs = true ∧ Calls Tryz.prog 201 #[Pv A n c d] w (LastNo w)) ∨ ∃ ys x, xs = ys ++ [x] ∧ dotB x = false ∧ Calls Tryz.prog 201 #[Pv A n c d] w (LastYes w ys x) := by
  subst hn
  rcases List.eq_nil_or_concat xs with rfl | ⟨ys, x, rfl⟩
  · exact .inl ⟨rfl, last_none A c d w⟩
  · rw [List.concat_eq_append] at hx hl hc ⊢
    rw [List.length_append, List.length_singleton] at hl hc ⊢
    cases hd : dotB x
    · exact .inr ⟨ys, x, rfl, hd, last_yes A c B d ys x w (by omega) hc hB hx hd⟩
    · exact .inl ⟨by simp [lastNo, hd], last_dots A c B d ys x w (by omega) hB hx hd⟩

end Go.Proofs.YtnnaoldpacbagaaGreat.pa
end
section
namespace Go.Proofs.YtnnaoldpacbagaaGreat.pa
open Go.RowKit


/-- What 'Parse' hands back of a text. -/
def ParseE (w : World) (L : Bs) (e : Ending) (w' : World) : Prop :=
  ∃ A c, e = .returned (.tuple #[.agg #[.slice A (pnames L).length c, .bool (pdirE L)], .int .i64 (perr L)]) ∧ Own w' w.heap.size A c (pnames L) ∧ Below w.heap.size w w'

theorem parseE_no {w w' : World} {L : Bs} {n : Int} (h : perr L = n) (hn : n ≠ 0) (hb : Below w.heap.size w w') :
    ParseE w L (.returned (.tuple #[.agg #[.slice none 0 0, .bool false], .int .i64 n])) w' := by
  subst h
  refine ⟨none, 0, ?_, ?_, hb⟩
  · rw [pnames_no hn, pdirE_no hn]; rfl
  · rw [pnames_no hn]
    exact World.ownsRow_nil _ _ _ _

set_option maxRecDepth 100000 in
set_option maxHeartbeats 400000 in
theorem parse_empty (w : World) : Calls Tryz.prog 199 #[.string ⟨#[]⟩] w (ParseE w []) := by
  go_enter Tryz.func199, Tryz.ntmps199
  go_wp2
  exact bodyPost_ret (v := .tuple #[.agg #[.slice none 0 0, .bool false], .int .i64 2]) (by simp [results, Tryz.results199, go_sem]) rfl (parseE_no (by decide) (by decide) ((Below.refl _ _).alloc (Nat.le_refl _) _))

set_option maxRecDepth 100000 in
set_option maxHeartbeats 400000 in
theorem parse_long (s : ByteArray) (w : World) (hs : 400 < s.size) : Calls Tryz.prog 199 #[.string s] w (ParseE w s.data.toList) := by
  have hne : s.toList.isEmpty = false := by
    rw [Lib.toList_data]
    cases h : s.data.toList with
    | nil => rw [Lib.size_eq, h] at hs; simp at hs
    | cons _ _ => rfl
  have HP := Lib.hid (show perr s.data.toList = 36 by
    unfold perr
    rw [Lib.size_eq] at hs
    rw [if_neg (by intro h; rw [h] at hs; simp at hs), if_pos hs])
  go_enter Tryz.func199, Tryz.ntmps199
  go_wp2
  exact bodyPost_ret (v := .tuple #[.agg #[.slice none 0 0, .bool false], .int .i64 36]) (by simp [results, Tryz.results199, go_sem]) rfl (parseE_no HP.out (by decide) ((Below.refl _ _).alloc (Nat.le_refl _) _))

theorem index_no (l : Bs) (c : UInt8) (h : c ∉ l) : Lib.indexByte l c = -1 := by
  induction l with
  | nil => rfl
  | cons b l ih =>
    rw [List.mem_cons, not_or] at h
    have hb : (b == c) = false := by rw [beq_eq_false_iff_ne]; exact fun e => h.1 e.symm
    simp [Lib.indexByte, hb, ih h.2]
theorem index_yes (l : Bs) (c : UInt8) (h : c ∈ l) : 0 ≤ Lib.indexByte l c := by
  induction l with
  | nil => simp at h
  | cons b l ih =>
    by_cases hb : b = c
    · simp [Lib.indexByte, hb]
    · have hb' : (b == c) = false := by rw [beq_eq_false_iff_ne]; exact hb
      have := ih (by rcases List.mem_cons.1 h with h | h; exact absurd h.symm hb; exact h)
      have h2 : ¬ (Lib.indexByte l c = -1) := by omega
      simp [Lib.indexByte, hb', h2]
      omega
set_option maxRecDepth 100000 in
theorem nul_no (s : ByteArray) (w : World) (h : (0 : UInt8) ∉ s.data.toList) : Calls Tryz.prog 202 #[.string s, .int .u8 0] w fun e w' => e = .returned (.int .i64 (-1)) ∧ w = w' :=
  (Tryz.strings_IndexByte s 0 w).mono fun e w' ⟨he, hw⟩ => ⟨by rw [he, show (Int.toNat 0).toUInt8 = 0 from rfl, index_no _ _ h], hw.symm⟩
def NulYes (w : World) (e : Ending) (w' : World) : Prop := ∃ n : Int, 0 ≤ n ∧ e = .returned (.int .i64 n) ∧ w = w'
set_option maxRecDepth 100000 in
theorem nul_yes (s : ByteArray) (w : World) (h : (0 : UInt8) ∈ s.data.toList) : Calls Tryz.prog 202 #[.string s, .int .u8 0] w (NulYes w) :=
  (Tryz.strings_IndexByte s 0 w).mono fun e w' ⟨he, hw⟩ => ⟨_, index_yes _ _ h, by rw [he]; rfl, hw.symm⟩

theorem notEmpty {s : ByteArray} (h : s.data.toList ≠ []) : s.toList.isEmpty = false := by
  rw [Lib.toList_data]
  cases h' : s.data.toList with
  | nil => exact absurd h' h
  | cons _ _ => rfl

set_option maxRecDepth 100000 in
set_option maxHeartbeats 400000 in
theorem parse_nul (s : ByteArray) (w : World) (h0 : s.data.toList ≠ []) (hs : s.size ≤ 400) (h : (0 : UInt8) ∈ s.data.toList) : Calls Tryz.prog 199 #[.string s] w (ParseE w s.data.toList) := by
  have hne := notEmpty h0
  have HP := Lib.hid (show perr s.data.toList = 22 by
    unfold perr
    rw [Lib.size_eq] at hs
    rw [if_neg h0, if_neg (by omega), if_pos h])
  have HN := fun w => nul_yes s w h
  clear h h0
  go_enter Tryz.func199, Tryz.ntmps199
  go_wp2_with (go_at_call 202; refine (HN _).mono ?_; rintro e w' ⟨n, hn, rfl, rfl⟩)
  exact bodyPost_ret (v := .tuple #[.agg #[.slice none 0 0, .bool false], .int .i64 22]) (by simp [results, Tryz.results199, go_sem]) rfl (parseE_no HP.out (by decide) ((Below.refl _ _).alloc (Nat.le_refl _) _))

/-- The gathered names, so far. -/
theorem gath_take (xs : List Bs) (k : Nat) (x : Bs) (h : xs[k]? = some x) : gath (xs.take (k + 1)) = gath (xs.take k) ++ if x = [46] then [] else [x] := by
  obtain ⟨hk, rfl⟩ := List.getElem?_eq_some_iff.1 h
  rw [List.take_succ_eq_append_getElem hk, gath_snoc]

set_option maxHeartbeats 1000000 in
set_option maxRecDepth 100000 in
theorem parse_main (s : ByteArray) (w : World) (h0 : s.data.toList ≠ []) (hs : s.size ≤ 400) (h : (0 : UInt8) ∉ s.data.toList) : Calls Tryz.prog 199 #[.string s] w (ParseE w s.data.toList) := by
  obtain ⟨i0, hi, hz0, hz1, hz2⟩ := info_parts info9
  have hne := notEmpty h0
  have HN := fun w => nul_no s w h
  have hcnt : (comps s.data.toList).length ≤ 400 := by have := comps_count s.data.toList; rw [← Lib.size_eq] at this; omega
  have HE := fun A n c B w hn hS => ends_any s A n c (comps s.data.toList) B w hn hs hcnt hS
  have HC := components_any s (w.alloc (.cells #[.slice none 0 0, .bool false] 278)) hs
  have H0 := Lib.hid (And.intro h0 h)
  clear h h0
  generalize hx : comps s.data.toList = xs at *
  have HX := Lib.hid hx
  clear hx
  go_enter Tryz.func199, Tryz.ntmps199
  go_wp2_with (first
    | (go_at_call 202; refine (HN _).mono ?_; rintro e w' ⟨rfl, rfl⟩)
    | (go_at_call 206; refine HC.mono ?_; rintro e w1 ⟨A, c, rfl, hown, hb⟩))
  have hxs : Strs w1 w1.heap.size A xs := hown.strs
  have sz1 : w.heap.size + 1 ≤ w1.heap.size := by have := hb.size; simpa using this
  have hb1 : Below w.heap.size w w1 := ((Below.refl _ _).alloc (Nat.le_refl _) _).trans (hb.mono (by simp))
  have r0 : w1.cell? ⟨w.heap.size, 0, none⟩ = some (.slice none 0 0) := by rw [hb.cell (p := ⟨w.heap.size, 0, none⟩) (by simp)]; simp
  have r1 : w1.cell? ⟨w.heap.size, 1, none⟩ = some (.bool false) := by rw [hb.cell (p := ⟨w.heap.size, 1, none⟩) (by simp)]; simp
  have f0 : w1.frozen? ⟨w.heap.size, 0, none⟩ = false := by rw [hb.frozen (p := ⟨w.heap.size, 0, none⟩) (by simp)]; simp
  have f1 : w1.frozen? ⟨w.heap.size, 1, none⟩ = false := by rw [hb.frozen (p := ⟨w.heap.size, 1, none⟩) (by simp)]; simp
  clear hb
  go_loopg [5, 26] xs.length (fun g v i wr => ∃ k : Nat, k ≤ xs.length ∧ g + k = xs.length ∧ i = .int .i64 k ∧ Hid (∀ x ∈ xs.take k, x.length ≤ 60) ∧
    wr.ownsRow w1.heap.size 9 1 v (gath (xs.take k)).length ((gath (xs.take k)).map Sv) ∧ Below w1.heap.size w1 wr)
  case atStart => exact ⟨0, by omega, by omega, rfl, (by show ∀ _, _; simp), World.ownsRow_nil _ _ _ _, Below.refl _ _⟩
  case round =>
    obtain ⟨k, hk, hg, rfl, HA, hrow, hbr⟩ := hrel
    have szr : w.heap.size + 1 ≤ wr.heap.size := by have := hbr.size; omega
    have R0 : wr.cell? ⟨w.heap.size, 0, none⟩ = some (.slice none 0 0) := (hbr.cell (p := ⟨w.heap.size, 0, none⟩) (by simp; omega)).trans r0
    have R1 : wr.cell? ⟨w.heap.size, 1, none⟩ = some (.bool false) := (hbr.cell (p := ⟨w.heap.size, 1, none⟩) (by simp; omega)).trans r1
    have F0 : wr.frozen? ⟨w.heap.size, 0, none⟩ = false := (hbr.frozen (p := ⟨w.heap.size, 0, none⟩) (by simp; omega)).trans f0
    have F1 : wr.frozen? ⟨w.heap.size, 1, none⟩ = false := (hbr.frozen (p := ⟨w.heap.size, 1, none⟩) (by simp; omega)).trans f1
    by_cases hlt : k < xs.length
    · obtain ⟨ad, x, rfl, hab, hx, hcell⟩ := hxs.get hlt
      have hcr : wr.cell? (ad.add k) = some (Sv x) := (hbr.cell (p := ad.add k) (by rw [addr_block]; exact hab)).trans hcell
      have HG := Lib.hid (gath_take xs k x hx)
      have hgl : (gath (xs.take k)).length ≤ k := by have := gath_le (xs.take k); rw [List.length_take] at this; omega
      have HM := Lib.hid (List.mem_of_getElem? hx)
      have HT := Lib.hid (show xs.take (k + 1) = xs.take k ++ [x] by
        obtain ⟨hk', rfl⟩ := List.getElem?_eq_some_iff.1 hx
        exact List.take_succ_eq_append_getElem hk')
      clear hcell hx
      by_cases h60 : 60 < x.length
      · have HP := Lib.hid (show perr s.data.toList = 36 by
          unfold perr
          rw [if_neg H0.out.1, if_neg (by rw [← Lib.size_eq]; omega), if_neg H0.out.2, if_pos ⟨x, by rw [HX.out]; exact HM.out, h60⟩])
        go_wp2
        exact bodyPost_ret (v := .tuple #[.agg #[.slice none 0 0, .bool false], .int .i64 36]) (by simp [results, Tryz.results199, go_sem, *]) rfl (parseE_no HP.out (by decide) (((hb1.trans (hbr.mono (by omega))).setCell (Nat.le_refl _) _).setCell (Nat.le_refl _) _))
      · have HA' : Hid (∀ x ∈ xs.take (k + 1), x.length ≤ 60) := by
          show ∀ _, _
          rw [HT.out]
          intro y hy
          rcases List.mem_append.1 hy with hy | hy
          · exact HA.out y hy
          · simp at hy; subst hy; omega
        by_cases hd : x = [46]
        · subst hd
          go_wp2
          go_roundg (gk - 1)
          case measure => omega
          case rel => exact ⟨k + 1, by omega, by omega, by go_num, HA', by rw [HG.out]; simpa using hrow, hbr⟩
        · have hdB : (!x == [46]) = true := by simp [hd]
          have HG' := Lib.hid (show gath (xs.take (k + 1)) = gath (xs.take k) ++ [x] by rw [HG.out, if_neg hd])
          clear hd
          go_wp2_with (at_builtin; go_must (refine wpList_append_own _ rfl (.tmp 36) (.tmp 38) 43 rfl w1.heap.size 9 i0 _ 1 16 Tryz.underlying43 hi hz0 hz1 hz2 rfl (by decide) u5 (gath (xs.take k)).length ((gath (xs.take k)).map Sv) rfl (hrow.alloc _) ⟨wr.heap.size, 0, none⟩ 1 1 [Sv x] rfl rfl (cell_one_new _ _ _) (by intro u hu; simp at hu; subst hu; rfl) (by unfold maxLen; omega) (by omega) (by have := hbr.size; simp; omega) ?_); intro v1 w2 hown1 hgrow1 _)
          go_roundg (gk - 1)
          case measure => omega
          case rel =>
            refine ⟨k + 1, by omega, by omega, by go_num, HA', ?_, ?_⟩
            · rw [HG'.out]; simpa using hown1
            · exact (hbr.alloc hbr.size _).grown hgrow1 (by have := hbr.size; simp; omega) (fun g hg' => (hrow.lt g hg').1)
    · have HK := Lib.hid (show xs.take k = xs by rw [List.take_of_length_le (by omega)])
      have hkl : ¬ ((k : Int) < (xs.length : Int)) := by omega
      have hgl : (gath (xs.take k)).length ≤ k := by have := gath_le (xs.take k); rw [List.length_take] at this; omega
      clear hlt
      have HN40 := Lib.hid (show nms s.data.toList = gath (xs.take k) by rw [← gath_comps, HX.out, HK.out])
      obtain ⟨A2, c2, rfl, hown2, hn2⟩ := own_form hrow
      clear hn2
      by_cases h40 : 40 < (gath (xs.take k)).length
      · have HP := Lib.hid (show perr s.data.toList = 36 by
          unfold perr
          rw [if_neg H0.out.1, if_neg (by rw [← Lib.size_eq]; omega), if_neg H0.out.2, if_neg (by
            rintro ⟨x, hx, hl⟩
            have := HA.out x (by rw [HK.out, ← HX.out]; exact hx)
            omega), if_pos (by rw [HN40.out]; exact h40)])
        go_wp2
        exact bodyPost_ret (v := .tuple #[.agg #[.slice none 0 0, .bool false], .int .i64 36]) (by simp [results, Tryz.results199, go_sem, *]) rfl (parseE_no HP.out (by decide) (((hb1.trans (hbr.mono (by omega))).setCell (Nat.le_refl _) _).setCell (Nat.le_refl _) _))
      · have HP := Lib.hid (show perr s.data.toList = 0 by
          rw [perr_zero]
          exact ⟨H0.out.1, by rw [← Lib.size_eq]; omega, H0.out.2, fun x hx => HA.out x (by rw [HK.out, ← HX.out]; exact hx), by rw [HN40.out]; omega⟩)
        go_wp2_with (go_at_call 207; refine (HE _ _ _ _ _ rfl (hxs.below hbr)).mono ?_; rintro e w' ⟨rfl, rfl⟩)
        refine bodyPost_ret (v := .tuple #[.agg #[.slice A2 (gath (xs.take k)).length c2, .bool (endB s.data.toList xs)], .int .i64 0]) (by simp [results, Tryz.results199, go_sem, *]) rfl ?_
        have e1 : pnames s.data.toList = gath (xs.take k) := by rw [pnames_ok HP.out, HN40.out]
        have e2 : pdirE s.data.toList = endB s.data.toList xs := by rw [pdirE_ok HP.out, pdir, HX.out]; rfl
        refine ⟨A2, c2, ?_, ?_, ?_⟩
        · rw [e1, e2, HP.out]
        · rw [e1]
          exact ((hown2.set (by simp; omega) _).set (by simp; omega) _).base (by omega)
        · exact ((hb1.trans (hbr.mono (by omega))).setCell (Nat.le_refl _) _).setCell (Nat.le_refl _) _

/-- 'Parse', of any text. -/
theorem parse_any (s : ByteArray) (w : World) : Calls Tryz.prog 199 #[.string s] w (ParseE w s.data.toList) := by
  by_cases h0 : s.data.toList = []
  · have e : s = ⟨#[]⟩ := by rw [← Lib.mk_data s, h0]
    subst e
    exact parse_empty w
  · by_cases hs : 400 < s.size
    · exact parse_long s w hs
    · by_cases h : (0 : UInt8) ∈ s.data.toList
      · exact parse_nul s w h0 (by omega) h
      · exact parse_main s w h0 (by omega) h

end Go.Proofs.YtnnaoldpacbagaaGreat.pa
end
