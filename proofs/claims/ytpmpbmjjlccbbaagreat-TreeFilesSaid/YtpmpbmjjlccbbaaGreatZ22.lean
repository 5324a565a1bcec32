/- Part 22 of what is known of the program's functions and of the document's words: contracts, and the mathematics beneath them. -/
import Derived.Test.YtpmpbmjjlccbbaaGreatProg
import Derived.Lib.Strings
import Derived.WalkKit
import Derived.WalkSpells
import Derived.WalkLawsBesides
import Derived.Lib.Hide
import Derived.Deep.LoopGhost
import Derived.Deep.DeepMust
import Derived.Deep.DeepFit
import Derived.Deep.QuietTactic
import Derived.BigQuiet
import Derived.Test.YtpmpbmjjlccbbaaGreatZ04
set_option linter.unusedVariables false
set_option linter.unusedSimpArgs false
set_option maxRecDepth 100000
set_option maxHeartbeats 8000000
namespace Go.Proofs.YtpmpbmjjlccbbaaGreat.pa
abbrev Bs := List UInt8
def compsA : Bs → Bs → List Bs
 | cur, [] => if cur.isEmpty then [] else [cur]
 | cur, c :: r => if c = 47 then (if cur.isEmpty then compsA [] r else cur :: compsA [] r) else compsA (cur ++ [c]) r
def comps (l : Bs) : List Bs := compsA [] l
def one (cur : Bs) : List Bs := if cur.isEmpty then [] else [cur]
theorem compsA_nil (cur : Bs) : compsA cur [] = one cur := by simp [compsA, one]
theorem compsA_slash (cur r : Bs) : compsA cur (47 :: r) = one cur ++ comps r := by
 simp only [compsA, comps, one, if_pos]
 split <;> rfl
theorem compsA_other (cur r : Bs) (c : UInt8) (h : c ≠ 47) : compsA cur (c :: r) = compsA (cur ++ [c]) r := by
 simp [compsA, h]
theorem compsA_run (x cur r : Bs) (h : ∀ c ∈ x, c ≠ 47) : compsA cur (x ++ r) = compsA (cur ++ x) r := by
 induction x generalizing cur with
 | nil => simp
 | cons c x ih =>
  rw [List.cons_append, compsA_other _ _ _ (h c (by simp)), ih _ (fun d hd => h d (by simp [hd]))]
  simp
theorem compsA_mid (a cur b : Bs) : compsA cur (a ++ 47 :: b) = compsA cur a ++ comps b := by
 induction a generalizing cur with
 | nil => rw [List.nil_append, compsA_slash, compsA_nil]
 | cons c a ih =>
  by_cases h : c = 47
  ·subst h
   rw [List.cons_append, compsA_slash, compsA_slash, List.append_assoc]
   exact congrArg _ (ih [])
  ·rw [List.cons_append, compsA_other _ _ _ h, compsA_other _ _ _ h, ih]
theorem comps_mid (a b : Bs) : comps (a ++ 47 :: b) = comps a ++ comps b := compsA_mid a [] b
theorem comps_nil : comps [] = [] := by simp [comps, compsA]
theorem comps_one (x : Bs) (h : ∀ c ∈ x, c ≠ 47) : comps x = one x := by
 have := compsA_run x [] [] h
 rw [List.append_nil, List.nil_append, compsA_nil] at this
 exact this
theorem one_ne (x : Bs) (h : x ≠ []) : one x = [x] := by cases x <;> simp_all [one]
theorem one_nil : one [] = [] := rfl
def IsComp (l x : Bs) : Prop := x ≠ [] ∧ (∀ c ∈ x, c ≠ 47) ∧ ∀ c ∈ x, c ∈ l
theorem compsA_is (l cur m : Bs) (hc : ∀ c ∈ cur, c ≠ 47 ∧ c ∈ m) (hl : ∀ c ∈ l, c ∈ m) : ∀ x ∈ compsA cur l, IsComp m x := by
 induction l generalizing cur with
 | nil =>
  intro x hx
  rw [compsA_nil, one] at hx
  split at hx
  ·simp at hx
  ·rename_i hne
   simp at hx
   subst hx
   exact ⟨by simpa using hne, fun c h => (hc c h).1, fun c h => (hc c h).2⟩
 | cons c l ih =>
  intro x hx
  by_cases h : c = 47
  ·subst h
   rw [compsA_slash, List.mem_append] at hx
   rcases hx with hx | hx
   ·rw [one] at hx
    split at hx
    ·simp at hx
    ·rename_i hne
     simp at hx
     subst hx
     exact ⟨by simpa using hne, fun c h => (hc c h).1, fun c h => (hc c h).2⟩
   ·exact ih [] (by simp) (fun d hd => hl d (by simp [hd])) x hx
  ·rw [compsA_other _ _ _ h] at hx
   refine ih (cur ++ [c]) ?_ (fun d hd => hl d (by simp [hd])) x hx
   intro d hd
   rw [List.mem_append, List.mem_singleton] at hd
   rcases hd with hd | rfl
   ·exact hc d hd
   ·exact ⟨h, hl d (by simp)⟩
theorem comps_is (l : Bs) : ∀ x ∈ comps l, IsComp l x := compsA_is l [] l (by simp) (fun _ h => h)
theorem compsA_count (l cur : Bs) : (compsA cur l).length ≤ cur.length + l.length := by
 induction l generalizing cur with
 | nil =>
  rw [compsA_nil]
  cases cur <;> simp [one]
 | cons c l ih =>
  by_cases h : c = 47
  ·subst h
   rw [compsA_slash]
   have := ih []
   have e : (compsA [] l) = comps l := rfl
   rw [e] at this
   cases cur <;> simp [one] at this ⊢ <;> omega
  ·rw [compsA_other _ _ _ h]
   have := ih (cur ++ [c])
   simp at this ⊢
   omega
theorem comps_count (l : Bs) : (comps l).length ≤ l.length := by have := compsA_count l []; rw [List.length_nil, Nat.zero_add] at this; exact this
def nms (l : Bs) : List Bs := (comps l).filter fun x => !(x == [46])
def lastDots (xs : List Bs) : Bool := match xs.getLast? with | some x => x == [46] || x == [46, 46] | none => false
def pdir (l : Bs) : Bool := (comps l).isEmpty || Lib.hasSuffix l [47] || lastDots (comps l)
def perr (l : Bs) : Int :=
 if l = [] then 2 else if 400 < l.length then 36 else if (0 : UInt8) ∈ l then 22
 else if ∃ x ∈ comps l, 60 < x.length then 36 else if 40 < (nms l).length then 36 else 0
def pnames (l : Bs) : List Bs := if perr l = 0 then nms l else []
def pdirE (l : Bs) : Bool := if perr l = 0 then pdir l else false
theorem perr_zero {l : Bs} : perr l = 0 ↔ l ≠ [] ∧ l.length ≤ 400 ∧ (0 : UInt8) ∉ l ∧ (∀ x ∈ comps l, x.length ≤ 60) ∧ (nms l).length ≤ 40 := by
 unfold perr
 by_cases h1 : l = []
 ·simp [h1]
 ·by_cases h2 : 400 < l.length
  ·simp [h1, h2]
   omega
  ·by_cases h3 : (0 : UInt8) ∈ l
   ·simp [h1, h2, h3]
   ·by_cases h4 : ∃ x ∈ comps l, 60 < x.length
    ·obtain ⟨x, hx, hl⟩ := h4
     have h4' : ∃ x ∈ comps l, 60 < x.length := ⟨x, hx, hl⟩
     rw [if_neg h1, if_neg h2, if_neg h3, if_pos h4']
     refine ⟨by simp, fun ⟨_, _, _, h, _⟩ => ?_⟩
     have := h x hx
     omega
    ·have h4' : ∀ x ∈ comps l, x.length ≤ 60 := fun x hx => by
      rcases Nat.lt_or_ge 60 x.length with h | h
      ·exact absurd ⟨x, hx, h⟩ h4
      ·exact h
     by_cases h5 : 40 < (nms l).length
     ·rw [if_neg h1, if_neg h2, if_neg h3, if_neg h4, if_pos h5]
      exact ⟨by simp, fun ⟨_, _, _, _, h⟩ => by omega⟩
     ·rw [if_neg h1, if_neg h2, if_neg h3, if_neg h4, if_neg h5]
      exact ⟨fun _ => ⟨h1, by omega, h3, h4', by omega⟩, fun _ => rfl⟩
theorem pnames_le (l : Bs) : (pnames l).length ≤ 40 := by
 unfold pnames
 split
 ·rename_i h; exact (perr_zero.1 h).2.2.2.2
 ·simp
theorem pnames_ok {l : Bs} (h : perr l = 0) : pnames l = nms l := by simp [pnames, h]
theorem pdirE_ok {l : Bs} (h : perr l = 0) : pdirE l = pdir l := by simp [pdirE, h]
theorem pnames_no {l : Bs} (h : perr l ≠ 0) : pnames l = [] := by simp [pnames, h]
theorem pdirE_no {l : Bs} (h : perr l ≠ 0) : pdirE l = false := by simp [pdirE, h]
def gath (xs : List Bs) : List Bs := xs.filter fun x => !(x == [46])
theorem gath_snoc (xs : List Bs) (x : Bs) : gath (xs ++ [x]) = gath xs ++ if x = [46] then [] else [x] := by
 unfold gath
 rw [List.filter_append]
 by_cases h : x = [46] <;> simp [h]
theorem gath_le (xs : List Bs) : (gath xs).length ≤ xs.length := List.length_filter_le _ _
theorem gath_comps (l : Bs) : gath (comps l) = nms l := rfl
end Go.Proofs.YtpmpbmjjlccbbaaGreat.pa
namespace Go.Proofs.YtpmpbmjjlccbbaaGreat.pa
open Go.RowKit
abbrev Sv (x : Bs) : Value := .string ⟨x.toArray⟩
theorem addr_block (a : Addr) (n : Nat) : (a.add n).block = a.block := by unfold Addr.add; split <;> rfl
theorem addr_add (a : Addr) (i j : Nat) : (a.add i).add j = a.add (i + j) := by
 unfold Addr.add
 by_cases hi : i = 0 <;> by_cases hj : j = 0 <;> simp [hi, hj, Nat.add_assoc]
def Strs (w : World) (B : Nat) (A : Option Addr) (xs : List Bs) : Prop :=
 0 < xs.length → ∃ ad, A = some ad ∧ ad.block < B ∧ ∀ j x, xs[j]? = some x → w.cell? (ad.add j) = some (Sv x)
theorem Strs.nil (w : World) (B : Nat) (A : Option Addr) : Strs w B A [] := fun h => absurd h (by simp)
theorem Strs.keep {w w' : World} {B : Nat} {A : Option Addr} {xs : List Bs} (h : Strs w B A xs) (hk : ∀ p : Addr, p.block < B → w'.cell? p = w.cell? p) : Strs w' B A xs := fun hn => by
 obtain ⟨ad, e, hb, hc⟩ := h hn
 exact ⟨ad, e, hb, fun j x hx => (hk _ (by rw [addr_block]; exact hb)).trans (hc j x hx)⟩
theorem Strs.below {w w' : World} {B : Nat} {A : Option Addr} {xs : List Bs} (h : Strs w B A xs) (hb : Below B w w') : Strs w' B A xs := h.keep fun _ hp => hb.cell hp
theorem Strs.get {w : World} {B : Nat} {A : Option Addr} {xs : List Bs} (h : Strs w B A xs) {k : Nat} (hk : k < xs.length) :
  ∃ ad x, A = some ad ∧ ad.block < B ∧ xs[k]? = some x ∧ w.cell? (ad.add k) = some (Sv x) := by
 obtain ⟨ad, e, hb, hc⟩ := h (by omega)
 exact ⟨ad, xs[k], e, hb, List.getElem?_eq_getElem hk, hc k _ (List.getElem?_eq_getElem hk)⟩
def Own (w' : World) (B : Nat) (A : Option Addr) (c : Nat) (xs : List Bs) : Prop := w'.ownsRow B 9 1 (.slice A xs.length c) xs.length (xs.map Sv)
theorem Own.strs {w' : World} {B : Nat} {A : Option Addr} {c : Nat} {xs : List Bs} (h : Own w' B A c xs) : Strs w' w'.heap.size A xs := by
 intro hn
 rcases h.2 with ⟨e, h0⟩ | ⟨g, cap, cur, hv, hb, hg, _⟩
 ·omega
 ·injection hv with hA
  subst hA
  refine ⟨_, rfl, (Array.getElem?_eq_some_iff.1 hg).1, fun j x hx => ?_⟩
  exact World.ownsRow.cells h (g := g) rfl j (Sv x) (by rw [List.getElem?_map, hx]; rfl)
theorem own_base {w : World} {B B' : Nat} {e : TypeId} {size : Nat} {v : Value} {n : Nat} {xs : List Value} (h : w.ownsRow B e size v n xs) (hB : B' ≤ B) : w.ownsRow B' e size v n xs := by
 refine ⟨h.1, ?_⟩
 rcases h.2 with h2 | ⟨g, cap, cur, hv, hb, r⟩
 ·exact .inl h2
 ·exact .inr ⟨g, cap, cur, hv, by omega, r⟩
theorem Own.base {w : World} {B B' : Nat} {A : Option Addr} {c : Nat} {xs : List Bs} (h : Own w B A c xs) (hB : B' ≤ B) : Own w B' A c xs := own_base h hB
theorem Own.set {w : World} {B : Nat} {A : Option Addr} {c : Nat} {xs : List Bs} (h : Own w B A c xs) {a : Addr} (ha : a.block < B) (u : Value) : Own (w.setCell a u) B A c xs := ownsRow_setCell_below h ha u
theorem own_form {w : World} {B n : Nat} {v : Value} {xs : List Bs} (h : w.ownsRow B 9 1 v n (xs.map Sv)) : ∃ A c, v = .slice A xs.length c ∧ Own w B A c xs ∧ n = xs.length := by
 have hn : n = xs.length := by have := h.1; simp at this; omega
 subst hn
 rcases h.2 with ⟨e, h0⟩ | ⟨g, cap, cur, hv, _⟩
 ·refine ⟨none, 0, by rw [e, h0], ?_, rfl⟩
  unfold Own
  rw [h0, ← e, ← h0]
  exact h
 ·refine ⟨_, cap, hv, ?_, rfl⟩
  unfold Own
  rw [← hv]
  exact h
theorem below_drewN {B : Nat} {a w : World} (h : Below B a w) (n : Nat) : Below B a (w.drewN n) := ⟨h.os, h.tape, h.output, h.size, h.block⟩
theorem drop_take_snoc (l : Bs) (i j : Nat) (hij : i ≤ j) (hj : j < l.length) : (l.drop i).take (j + 1 - i) = (l.drop i).take (j - i) ++ [l[j]] := by
 rw [show j + 1 - i = (j - i) + 1 from by omega, List.take_succ_eq_append_getElem (by rw [List.length_drop]; omega)]
 simp [List.getElem_drop, Nat.add_sub_cancel' hij]
theorem info9 : (Tryz.prog.info? 9).map (fun i => (i.zero, i.size, i.bytes)) = some (some (.string ByteArray.empty), 1, 16) := by kernel_rfl
theorem info5 : (Tryz.prog.info? 5).map (fun i => (i.zero, i.size, i.bytes)) = some (some (.int .u8 0), 1, 1) := by kernel_rfl
def OwnE (w : World) (xs : List Bs) (e : Ending) (w' : World) : Prop := ∃ A c, e = .returned (.slice A xs.length c) ∧ Own w' w.heap.size A c xs ∧ Below w.heap.size w w'
theorem ownE_of {w w' : World} {v : Value} {n : Nat} {xs : List Bs} (h : w'.ownsRow w.heap.size 9 1 v n (xs.map Sv)) (hb : Below w.heap.size w w') : OwnE w xs (.returned v) w' := by
 obtain ⟨A, c, rfl, ho, -⟩ := own_form h
 exact ⟨A, c, rfl, ho, hb⟩
theorem ex_list (s : ByteArray) (k j : Nat) : Value.string (s.extract k j) = Sv ((s.data.toList.drop k).take (j - k)) := by rw [Lib.extract_eq]
theorem comps_step (L : Bs) (k j : Nat) (hkj : k ≤ j) (hj : j < L.length) (hn : ∀ c ∈ (L.drop k).take (j - k), c ≠ 47) (h : L[j] = 47) :
  comps (L.drop k) = one ((L.drop k).take (j - k)) ++ comps (L.drop (j + 1)) := by
 have e : L.drop k = (L.drop k).take (j - k) ++ 47 :: L.drop (j + 1) := by
  have h1 : (L.drop k).drop (j - k) = 47 :: L.drop (j + 1) := by
   rw [List.drop_drop, show k + (j - k) = j from by omega, List.drop_eq_getElem_cons hj, h]
  rw [← h1, List.take_append_drop]
 conv => lhs; rw [e]
 rw [comps_mid, comps_one _ hn]
theorem comps_last (L : Bs) (k : Nat) (hk : k < L.length) (hn : ∀ c ∈ (L.drop k).take (L.length - k), c ≠ 47) : comps (L.drop k) = [(L.drop k).take (L.length - k)] := by
 have e : L.drop k = (L.drop k).take (L.length - k) := (List.take_of_length_le (by simp)).symm
 conv => lhs; rw [e]
 rw [comps_one _ hn, one_ne]
 intro h
 have := congrArg List.length h
 simp at this
 omega
theorem getD_data (s : ByteArray) (j : Nat) (h : j < s.size) : s[j] = s.data.toList[j]'(by rw [← Lib.size_eq]; exact h) := by rfl
theorem components_any (s : ByteArray) (w : World) (hs : s.size ≤ 400) :
    Calls Tryz.prog 189 #[.string s] w (OwnE w (comps s.data.toList)) := by
  obtain ⟨i0, hi, hz0, hz1, hz2⟩ := info_parts info9
  have HL := Lib.hid (Lib.size_eq s)
  go_enter Tryz.func189, Tryz.ntmps189
  go_wp2
  go_step3
  go_wp2
  go_step3
  go_wp2
  go_loopg [3, 4] s.size (fun g v i wr => ∃ (k : Nat) (pre : List Bs), k ≤ s.size ∧ g + k = s.size ∧ i = .int .i64 k ∧ Hid (comps s.data.toList = pre ++ comps (s.data.toList.drop k)) ∧ pre.length ≤ k ∧
      wr.ownsRow w.heap.size 9 1 v pre.length (pre.map Sv) ∧ Below w.heap.size w wr)
  case atStart => exact ⟨0, [], by omega, by omega, rfl, (by show _ = _; simp), by simp, World.ownsRow_nil _ _ _ _, Below.refl _ _⟩
  case round =>
    obtain ⟨k, pre, hk, hg, rfl, HC, hp, hown, hb⟩ := hrel
    by_cases hlt : k < s.size
    · go_wp2
      go_loopg [3, 4, 5] s.size (fun g2 v3 v4 e wy => u3 = v3 ∧ v4 = .int .i64 k ∧ ∃ j : Nat, k ≤ j ∧ j ≤ s.size ∧ g2 + j = s.size + k ∧ e = .int .i64 j ∧ Hid (∀ c ∈ (s.data.toList.drop k).take (j - k), c ≠ 47) ∧ wr = wy)
      case atStart => exact ⟨rfl, rfl, k, Nat.le_refl _, hk, by omega, rfl, (by show ∀ _, _; simp), rfl⟩
      case round =>
        obtain ⟨rfl, rfl, j, hkj, hj, hg2, rfl, HN, rfl⟩ := hrel
        by_cases hjl : j < s.size
        · have hjL : j < s.data.toList.length := by rw [← Lib.size_eq]; exact hjl
          by_cases h47 : s[j] = 47
          · have hT : (((s[j]).toNat : Int) != 47) = false := by rw [h47]; rfl
            have HS := Lib.hid (comps_step s.data.toList k j hkj hjL HN.out (by rw [← getD_data s j hjl]; exact h47))
            clear h47
            by_cases hjk : k < j
            · go_wp2_with (at_builtin; refine wpList_append_own _ rfl (.tmp 24) (.tmp 29) 48 rfl w.heap.size 9 i0 _ 1 16 Tryz.underlying48 hi hz0 hz1 hz2 rfl (by decide) u3 pre.length (pre.map Sv) rfl (hown.alloc _) ⟨wr.heap.size, 0, none⟩ 1 1 [.string (s.extract k j)] rfl rfl (cell_one_new _ _ _) (by intro u hu; simp at hu; subst hu; rfl) (by unfold maxLen; omega) (by omega) (by have := hb.size; simp; omega) ?_; intro v1 w1 hown1 hgrow1 _)
              go_roundg (s.size - (j + 1))
              case measure => omega
              case rel =>
                have HS' := HS.out
                rw [one_ne _ (by intro h; have := congrArg List.length h; simp at this; omega)] at HS'
                refine ⟨j + 1, pre ++ [(s.data.toList.drop k).take (j - k)], by omega, by omega, by go_num, ?_, by simp; omega, ?_, ?_⟩
                · show _ = _
                  rw [HC.out, HS', List.append_assoc]
                · rw [ex_list] at hown1
                  simpa using hown1
                · exact (hb.alloc hb.size _).grown hgrow1 (by have := hb.size; simp; omega) (fun g hg' => (hown.lt g hg').1)
            · have hje : j = k := by omega
              subst hje
              go_wp2
              go_roundg (s.size - (j + 1))
              case measure => omega
              case rel =>
                have HS' := HS.out
                rw [Nat.sub_self, List.take_zero, one_nil, List.nil_append] at HS'
                exact ⟨j + 1, pre, by omega, by omega, by go_num, (by show _ = _; rw [HC.out, HS']), by omega, hown, hb⟩
          · have hT : (((s[j]).toNat : Int) != 47) = true := by
              simp only [bne_iff_ne, ne_eq]
              intro h
              exact h47 (UInt8.toNat_inj.1 (by have : s[j].toNat = 47 := by omega
                                               simpa using this))
            have HN' : Hid (∀ c ∈ (s.data.toList.drop k).take (j + 1 - k), c ≠ 47) := by
              show ∀ _, _
              rw [drop_take_snoc _ _ _ hkj hjL]
              intro c hc
              rw [List.mem_append, List.mem_singleton] at hc
              rcases hc with hc | rfl
              · exact HN.out c hc
              · rw [← getD_data s j hjl]; exact h47
            clear h47
            go_wp2
            go_roundg (gk - 1)
            case measure => omega
            case rel => exact ⟨rfl, rfl, j + 1, by omega, by omega, by omega, by go_num, HN', rfl⟩
        · have hje : j = s.size := by omega
          have HS := Lib.hid (comps_last s.data.toList k (by rw [← Lib.size_eq]; exact hlt) (by rw [← Lib.size_eq, ← hje]; exact HN.out))
          clear hjl
          have hjl : ¬ ((j : Int) < (s.size : Int)) := by omega
          clear hje
          go_wp2_with (at_builtin; refine wpList_append_own _ rfl (.tmp 33) (.tmp 37) 48 rfl w.heap.size 9 i0 _ 1 16 Tryz.underlying48 hi hz0 hz1 hz2 rfl (by decide) u3 pre.length (pre.map Sv) rfl (hown.alloc _) ⟨wr.heap.size, 0, none⟩ 1 1 [.string (s.extract k s.size)] rfl rfl (cell_one_new _ _ _) (by intro u hu; simp at hu; subst hu; rfl) (by unfold maxLen; omega) (by omega) (by have := hb.size; simp; omega) ?_; intro v1 w1 hown1 hgrow1 _)
          try rw [Exit.noGoto_ret]
          go_ret
          have hfin : comps s.data.toList = pre ++ [(s.data.toList.drop k).take (s.size - k)] := by rw [HC.out, HS.out, HL.out]
          rw [hfin]
          rw [ex_list] at hown1
          refine ownE_of (n := pre.length + 1) (by simpa using hown1) ?_
          exact (hb.alloc hb.size _).grown hgrow1 (by have := hb.size; simp; omega) (fun g hg' => (hown.lt g hg').1)
    · have hje : k = s.size := by omega
      have hfin : comps s.data.toList = pre := by
        rw [HC.out, List.drop_eq_nil_of_le (by rw [← Lib.size_eq]; omega), comps_nil, List.append_nil]
      have HF := Lib.hid hfin
      have hkl : ¬ ((k : Int) < (s.size : Int)) := by omega
      clear hje hfin hlt
      go_wp2
      try rw [Exit.noGoto_ret]
      go_ret
      rw [HF.out]
      exact ownE_of hown hb
def dotB (x : Bs) : Bool := x == [46] || x == [46, 46]
theorem dots_any (x : Bs) (w : World) : Calls Tryz.prog 198 #[Sv x] w fun e w' => e = .returned (.bool (dotB x)) ∧ w = w' := by
 go_enter Tryz.func198, Tryz.ntmps198
 go_wp2
 all_goals (go_ret; exact ⟨by simp_all [dotB], rfl⟩)
def endB (L : Bs) (xs : List Bs) : Bool := xs.isEmpty || Lib.hasSuffix L [47] || lastDots xs
theorem ends_none (s : ByteArray) (A : Option Addr) (c : Nat) (w : World) :
  Calls Tryz.prog 190 #[.string s, .slice A 0 c] w fun e w' => e = .returned (.bool (endB s.data.toList [])) ∧ w = w' := by
 go_enter Tryz.func190, Tryz.ntmps190
 go_wp2
 go_ret
 exact ⟨rfl, rfl⟩
theorem ends_some (s : ByteArray) (A : Option Addr) (c : Nat) (ys : List Bs) (x : Bs) (B : Nat) (w : World) (hs : s.size ≤ 400) (hl : ys.length ≤ 400) (h : Strs w B A (ys ++ [x])) :
  Calls Tryz.prog 190 #[.string s, .slice A (ys.length + 1) c] w fun e w' => e = .returned (.bool (endB s.data.toList (ys ++ [x]))) ∧ w = w' := by
 obtain ⟨ad, y, rfl, _, hy, hcell⟩ := h.get (k := ys.length) (by simp)
 rw [List.getElem?_append_right (Nat.le_refl _)] at hy
 simp at hy
 subst hy
 have HF := Lib.hid (show endB s.data.toList (ys ++ [x]) = (Lib.hasSuffix s.data.toList [47] || dotB x) by unfold endB; rw [show (ys ++ [x]).isEmpty = false by cases ys <;> rfl]; simp [lastDots, dotB])
 clear h
 go_enter Tryz.func190, Tryz.ntmps190
 go_wp2_with (first
  | (go_at_call 206; refine (Tryz.strings_HasSuffix _ _ _ (by omega)).mono ?_; rintro e w' ⟨rfl, rfl⟩)
  | (go_at_call 198; refine (dots_any _ _).mono ?_; rintro e w' ⟨rfl, rfl⟩))
 all_goals (go_ret; refine ⟨?_, rfl⟩; rw [HF.out])
 ·have h2 : (((ys.length : Int) + 1 == 0) = true ∨ Lib.hasSuffix s.data.toList [47] = true) := by assumption
  have h3 : Lib.hasSuffix s.data.toList [47] = true := by
   rcases h2 with h2 | h2
   ·rw [beq_iff_eq] at h2; omega
   ·exact h2
  rw [h3]; rfl
 ·have h2 : (((ys.length : Int) + 1 == 0) = false ∧ Lib.hasSuffix s.data.toList [47] = false) := by assumption
  rw [h2.2]; rfl
theorem ends_any (s : ByteArray) (A : Option Addr) (n c : Nat) (xs : List Bs) (B : Nat) (w : World) (hn : n = xs.length) (hs : s.size ≤ 400) (hl : xs.length ≤ 400) (h : Strs w B A xs) :
  Calls Tryz.prog 190 #[.string s, .slice A n c] w fun e w' => e = .returned (.bool (endB s.data.toList xs)) ∧ w = w' := by
 subst hn
 rcases List.eq_nil_or_concat xs with rfl | ⟨ys, x, rfl⟩
 ·exact ends_none s A c w
 ·rw [List.concat_eq_append] at h hl ⊢
  rw [List.length_append]
  exact ends_some s A c ys x B w hs (by simp at hl; omega) h
def ParseE (w : World) (L : Bs) (e : Ending) (w' : World) : Prop :=
 ∃ A c, e = .returned (.tuple #[.agg #[.slice A (pnames L).length c, .bool (pdirE L)], .int .i64 (perr L)]) ∧ Own w' w.heap.size A c (pnames L) ∧ Below w.heap.size w w'
theorem parseE_no {w w' : World} {L : Bs} {n : Int} (h : perr L = n) (hn : n ≠ 0) (hb : Below w.heap.size w w') :
  ParseE w L (.returned (.tuple #[.agg #[.slice none 0 0, .bool false], .int .i64 n])) w' := by
 subst h
 refine ⟨none, 0, ?_, ?_, hb⟩
 ·rw [pnames_no hn, pdirE_no hn]; rfl
 ·rw [pnames_no hn]
  exact World.ownsRow_nil _ _ _ _
theorem parse_empty (w : World) : Calls Tryz.prog 160 #[.string ⟨#[]⟩] w (ParseE w []) := by
 go_enter Tryz.func160, Tryz.ntmps160
 go_wp2
 exact bodyPost_ret (v := .tuple #[.agg #[.slice none 0 0, .bool false], .int .i64 2]) (by simp [results, Tryz.results160, go_sem]) rfl (parseE_no (by decide) (by decide) ((Below.refl _ _).alloc (Nat.le_refl _) _))
theorem parse_long (s : ByteArray) (w : World) (hs : 400 < s.size) : Calls Tryz.prog 160 #[.string s] w (ParseE w s.data.toList) := by
 have hne : s.toList.isEmpty = false := by
  rw [Lib.toList_data]
  cases h : s.data.toList with
  | nil => rw [Lib.size_eq, h] at hs; simp at hs
  | cons _ _ => rfl
 have HP := Lib.hid (show perr s.data.toList = 36 by
  unfold perr
  rw [Lib.size_eq] at hs
  rw [if_neg (by intro h; rw [h] at hs; simp at hs), if_pos hs])
 go_enter Tryz.func160, Tryz.ntmps160
 go_wp2
 exact bodyPost_ret (v := .tuple #[.agg #[.slice none 0 0, .bool false], .int .i64 36]) (by simp [results, Tryz.results160, go_sem]) rfl (parseE_no HP.out (by decide) ((Below.refl _ _).alloc (Nat.le_refl _) _))
theorem index_no (l : Bs) (c : UInt8) (h : c ∉ l) : Lib.indexByte l c = -1 := by
 induction l with
 | nil => rfl
 | cons b l ih =>
  rw [List.mem_cons, not_or] at h
  have hb : (b == c) = false := by rw [beq_eq_false_iff_ne]; exact fun e => h.1 e.symm
  simp [Lib.indexByte, hb, ih h.2]
theorem index_yes (l : Bs) (c : UInt8) (h : c ∈ l) : 0 ≤ Lib.indexByte l c := by
 induction l with
 | nil => simp at h
 | cons b l ih =>
  by_cases hb : b = c
  ·simp [Lib.indexByte, hb]
  ·have hb' : (b == c) = false := by rw [beq_eq_false_iff_ne]; exact hb
   have := ih (by rcases List.mem_cons.1 h with h | h; exact absurd h.symm hb; exact h)
   have h2 : ¬ (Lib.indexByte l c = -1) := by omega
   simp [Lib.indexByte, hb', h2]
   omega
theorem nul_no (s : ByteArray) (w : World) (h : (0 : UInt8) ∉ s.data.toList) : Calls Tryz.prog 178 #[.string s, .int .u8 0] w fun e w' => e = .returned (.int .i64 (-1)) ∧ w = w' :=
 (Tryz.strings_IndexByte s 0 w).mono fun e w' ⟨he, hw⟩ => ⟨by rw [he, show (Int.toNat 0).toUInt8 = 0 from rfl, index_no _ _ h], hw.symm⟩
def NulYes (w : World) (e : Ending) (w' : World) : Prop := ∃ n : Int, 0 ≤ n ∧ e = .returned (.int .i64 n) ∧ w = w'
theorem nul_yes (s : ByteArray) (w : World) (h : (0 : UInt8) ∈ s.data.toList) : Calls Tryz.prog 178 #[.string s, .int .u8 0] w (NulYes w) :=
 (Tryz.strings_IndexByte s 0 w).mono fun e w' ⟨he, hw⟩ => ⟨_, index_yes _ _ h, by rw [he]; rfl, hw.symm⟩
theorem notEmpty {s : ByteArray} (h : s.data.toList ≠ []) : s.toList.isEmpty = false := by
 rw [Lib.toList_data]
 cases h' : s.data.toList with
 | nil => exact absurd h' h
 | cons _ _ => rfl
theorem parse_nul (s : ByteArray) (w : World) (h0 : s.data.toList ≠ []) (hs : s.size ≤ 400) (h : (0 : UInt8) ∈ s.data.toList) : Calls Tryz.prog 160 #[.string s] w (ParseE w s.data.toList) := by
 have hne := notEmpty h0
 have HP := Lib.hid (show perr s.data.toList = 22 by
  unfold perr
  rw [Lib.size_eq] at hs
  rw [if_neg h0, if_neg (by omega), if_pos h])
 have HN := fun w => nul_yes s w h
 clear h h0
 go_enter Tryz.func160, Tryz.ntmps160
 go_wp2_with (go_at_call 178; refine (HN _).mono ?_; rintro e w' ⟨n, hn, rfl, rfl⟩)
 exact bodyPost_ret (v := .tuple #[.agg #[.slice none 0 0, .bool false], .int .i64 22]) (by simp [results, Tryz.results160, go_sem]) rfl (parseE_no HP.out (by decide) ((Below.refl _ _).alloc (Nat.le_refl _) _))
theorem gath_take (xs : List Bs) (k : Nat) (x : Bs) (h : xs[k]? = some x) : gath (xs.take (k + 1)) = gath (xs.take k) ++ if x = [46] then [] else [x] := by
 obtain ⟨hk, rfl⟩ := List.getElem?_eq_some_iff.1 h
 rw [List.take_succ_eq_append_getElem hk, gath_snoc]
theorem parse_main (s : ByteArray) (w : World) (h0 : s.data.toList ≠ []) (hs : s.size ≤ 400) (h : (0 : UInt8) ∉ s.data.toList) : Calls Tryz.prog 160 #[.string s] w (ParseE w s.data.toList) := by
 obtain ⟨i0, hi, hz0, hz1, hz2⟩ := info_parts info9
 have hne := notEmpty h0
 have HN := fun w => nul_no s w h
 have hcnt : (comps s.data.toList).length ≤ 400 := by have := comps_count s.data.toList; rw [← Lib.size_eq] at this; omega
 have HE := fun A n c B w hn hS => ends_any s A n c (comps s.data.toList) B w hn hs hcnt hS
 have HC := components_any s (w.alloc (.cells #[.slice none 0 0, .bool false] 149)) hs
 have H0 := Lib.hid (And.intro h0 h)
 clear h h0
 generalize hx : comps s.data.toList = xs at *
 have HX := Lib.hid hx
 clear hx
 go_enter Tryz.func160, Tryz.ntmps160
 go_wp2_with (first
  | (go_at_call 178; refine (HN _).mono ?_; rintro e w' ⟨rfl, rfl⟩)
  | (go_at_call 189; refine HC.mono ?_; rintro e w1 ⟨A, c, rfl, hown, hb⟩))
 have hxs : Strs w1 w1.heap.size A xs := hown.strs
 have sz1 : w.heap.size + 1 ≤ w1.heap.size := by have := hb.size; simpa using this
 have hb1 : Below w.heap.size w w1 := ((Below.refl _ _).alloc (Nat.le_refl _) _).trans (hb.mono (by simp))
 have r0 : w1.cell? ⟨w.heap.size, 0, none⟩ = some (.slice none 0 0) := by rw [hb.cell (p := ⟨w.heap.size, 0, none⟩) (by simp)]; simp
 have r1 : w1.cell? ⟨w.heap.size, 1, none⟩ = some (.bool false) := by rw [hb.cell (p := ⟨w.heap.size, 1, none⟩) (by simp)]; simp
 have f0 : w1.frozen? ⟨w.heap.size, 0, none⟩ = false := by rw [hb.frozen (p := ⟨w.heap.size, 0, none⟩) (by simp)]; simp
 have f1 : w1.frozen? ⟨w.heap.size, 1, none⟩ = false := by rw [hb.frozen (p := ⟨w.heap.size, 1, none⟩) (by simp)]; simp
 clear hb
 go_loopg [5, 26] xs.length (fun g v i wr => ∃ k : Nat, k ≤ xs.length ∧ g + k = xs.length ∧ i = .int .i64 k ∧ Hid (∀ x ∈ xs.take k, x.length ≤ 60) ∧
  wr.ownsRow w1.heap.size 9 1 v (gath (xs.take k)).length ((gath (xs.take k)).map Sv) ∧ Below w1.heap.size w1 wr)
 case atStart => exact ⟨0, by omega, by omega, rfl, (by show ∀ _, _; simp), World.ownsRow_nil _ _ _ _, Below.refl _ _⟩
 case round =>
  obtain ⟨k, hk, hg, rfl, HA, hrow, hbr⟩ := hrel
  have szr : w.heap.size + 1 ≤ wr.heap.size := by have := hbr.size; omega
  have R0 : wr.cell? ⟨w.heap.size, 0, none⟩ = some (.slice none 0 0) := (hbr.cell (p := ⟨w.heap.size, 0, none⟩) (by simp; omega)).trans r0
  have R1 : wr.cell? ⟨w.heap.size, 1, none⟩ = some (.bool false) := (hbr.cell (p := ⟨w.heap.size, 1, none⟩) (by simp; omega)).trans r1
  have F0 : wr.frozen? ⟨w.heap.size, 0, none⟩ = false := (hbr.frozen (p := ⟨w.heap.size, 0, none⟩) (by simp; omega)).trans f0
  have F1 : wr.frozen? ⟨w.heap.size, 1, none⟩ = false := (hbr.frozen (p := ⟨w.heap.size, 1, none⟩) (by simp; omega)).trans f1
  by_cases hlt : k < xs.length
  ·obtain ⟨ad, x, rfl, hab, hx, hcell⟩ := hxs.get hlt
   have hcr : wr.cell? (ad.add k) = some (Sv x) := (hbr.cell (p := ad.add k) (by rw [addr_block]; exact hab)).trans hcell
   have HG := Lib.hid (gath_take xs k x hx)
   have hgl : (gath (xs.take k)).length ≤ k := by have := gath_le (xs.take k); rw [List.length_take] at this; omega
   have HM := Lib.hid (List.mem_of_getElem? hx)
   have HT := Lib.hid (show xs.take (k + 1) = xs.take k ++ [x] by
    obtain ⟨hk', rfl⟩ := List.getElem?_eq_some_iff.1 hx
    exact List.take_succ_eq_append_getElem hk')
   clear hcell hx
   by_cases h60 : 60 < x.length
   ·have HP := Lib.hid (show perr s.data.toList = 36 by
     unfold perr
     rw [if_neg H0.out.1, if_neg (by rw [← Lib.size_eq]; omega), if_neg H0.out.2, if_pos ⟨x, by rw [HX.out]; exact HM.out, h60⟩])
    go_wp2
    exact bodyPost_ret (v := .tuple #[.agg #[.slice none 0 0, .bool false], .int .i64 36]) (by simp [results, Tryz.results160, go_sem, *]) rfl (parseE_no HP.out (by decide) (((hb1.trans (hbr.mono (by omega))).setCell (Nat.le_refl _) _).setCell (Nat.le_refl _) _))
   ·have HA' : Hid (∀ x ∈ xs.take (k + 1), x.length ≤ 60) := by
     show ∀ _, _
     rw [HT.out]
     intro y hy
     rcases List.mem_append.1 hy with hy | hy
     ·exact HA.out y hy
     ·simp at hy; subst hy; omega
    by_cases hd : x = [46]
    ·subst hd
     go_wp2
     go_roundg (gk - 1)
     case measure => omega
     case rel => exact ⟨k + 1, by omega, by omega, by go_num, HA', by rw [HG.out]; simpa using hrow, hbr⟩
    ·have hdB : (!x == [46]) = true := by simp [hd]
     have HG' := Lib.hid (show gath (xs.take (k + 1)) = gath (xs.take k) ++ [x] by rw [HG.out, if_neg hd])
     clear hd
     go_wp2_with (at_builtin; go_must (refine wpList_append_own _ rfl (.tmp 36) (.tmp 38) 48 rfl w1.heap.size 9 i0 _ 1 16 Tryz.underlying48 hi hz0 hz1 hz2 rfl (by decide) u5 (gath (xs.take k)).length ((gath (xs.take k)).map Sv) rfl (hrow.alloc _) ⟨wr.heap.size, 0, none⟩ 1 1 [Sv x] rfl rfl (cell_one_new _ _ _) (by intro u hu; simp at hu; subst hu; rfl) (by unfold maxLen; omega) (by omega) (by have := hbr.size; simp; omega) ?_); intro v1 w2 hown1 hgrow1 _)
     go_roundg (gk - 1)
     case measure => omega
     case rel =>
      refine ⟨k + 1, by omega, by omega, by go_num, HA', ?_, ?_⟩
      ·rw [HG'.out]; simpa using hown1
      ·exact (hbr.alloc hbr.size _).grown hgrow1 (by have := hbr.size; simp; omega) (fun g hg' => (hrow.lt g hg').1)
  ·have HK := Lib.hid (show xs.take k = xs by rw [List.take_of_length_le (by omega)])
   have hkl : ¬ ((k : Int) < (xs.length : Int)) := by omega
   have hgl : (gath (xs.take k)).length ≤ k := by have := gath_le (xs.take k); rw [List.length_take] at this; omega
   clear hlt
   have HN40 := Lib.hid (show nms s.data.toList = gath (xs.take k) by rw [← gath_comps, HX.out, HK.out])
   obtain ⟨A2, c2, rfl, hown2, hn2⟩ := own_form hrow
   clear hn2
   by_cases h40 : 40 < (gath (xs.take k)).length
   ·have HP := Lib.hid (show perr s.data.toList = 36 by
     unfold perr
     rw [if_neg H0.out.1, if_neg (by rw [← Lib.size_eq]; omega), if_neg H0.out.2, if_neg (by
      rintro ⟨x, hx, hl⟩
      have := HA.out x (by rw [HK.out, ← HX.out]; exact hx)
      omega), if_pos (by rw [HN40.out]; exact h40)])
    go_wp2
    exact bodyPost_ret (v := .tuple #[.agg #[.slice none 0 0, .bool false], .int .i64 36]) (by simp [results, Tryz.results160, go_sem, *]) rfl (parseE_no HP.out (by decide) (((hb1.trans (hbr.mono (by omega))).setCell (Nat.le_refl _) _).setCell (Nat.le_refl _) _))
   ·have HP := Lib.hid (show perr s.data.toList = 0 by
     rw [perr_zero]
     exact ⟨H0.out.1, by rw [← Lib.size_eq]; omega, H0.out.2, fun x hx => HA.out x (by rw [HK.out, ← HX.out]; exact hx), by rw [HN40.out]; omega⟩)
    go_wp2_with (go_at_call 190; refine (HE _ _ _ _ _ rfl (hxs.below hbr)).mono ?_; rintro e w' ⟨rfl, rfl⟩)
    refine bodyPost_ret (v := .tuple #[.agg #[.slice A2 (gath (xs.take k)).length c2, .bool (endB s.data.toList xs)], .int .i64 0]) (by simp [results, Tryz.results160, go_sem, *]) rfl ?_
    have e1 : pnames s.data.toList = gath (xs.take k) := by rw [pnames_ok HP.out, HN40.out]
    have e2 : pdirE s.data.toList = endB s.data.toList xs := by rw [pdirE_ok HP.out, pdir, HX.out]; rfl
    refine ⟨A2, c2, ?_, ?_, ?_⟩
    ·rw [e1, e2, HP.out]
    ·rw [e1]
     exact ((hown2.set (by simp; omega) _).set (by simp; omega) _).base (by omega)
    ·exact ((hb1.trans (hbr.mono (by omega))).setCell (Nat.le_refl _) _).setCell (Nat.le_refl _) _
theorem parse_any (s : ByteArray) (w : World) : Calls Tryz.prog 160 #[.string s] w (ParseE w s.data.toList) := by
 by_cases h0 : s.data.toList = []
 ·have e : s = ⟨#[]⟩ := by rw [← Lib.mk_data s, h0]
  subst e
  exact parse_empty w
 ·by_cases hs : 400 < s.size
  ·exact parse_long s w hs
  ·by_cases h : (0 : UInt8) ∈ s.data.toList
   ·exact parse_nul s w h0 (by omega) h
   ·exact parse_main s w h0 (by omega) h
end Go.Proofs.YtpmpbmjjlccbbaaGreat.pa
