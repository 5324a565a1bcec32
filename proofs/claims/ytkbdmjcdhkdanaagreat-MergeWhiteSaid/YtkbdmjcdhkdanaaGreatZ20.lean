/- The document's answer by definition: 'has', 'Name', 'Less': what they hand back. The document's own 'Get' and 'Next'. The document's own 'Del'. The document's own 'Set'. -/
import Derived.Test.YtkbdmjcdhkdanaaGreatZ01
import Derived.RegionTactic
import Derived.BigRegion
import Derived.Test.YtkbdmjcdhkdanaaGreatZ00
import Derived.Test.YtkbdmjcdhkdanaaGreatZ03
section
namespace Go.Proofs.YtkbdmjcdhkdanaaGreat.dn
open Go.RowKit Go.Shelf
set_option linter.unusedVariables false


theorem getD_data (s : ByteArray) (j : Nat) (h : j < s.size) : s[j] = s.data.toList[j]'(by rw [← Lib.size_eq]; exact h) := by rfl

set_option maxRecDepth 100000 in
set_option maxHeartbeats 1000000 in
theorem rhas_any (s : ByteArray) (c : UInt8) (b : Bool) (w : World) (hm : s.size ≤ 9223372036854775807) (hb : decide (c ∈ s.data.toList) = b) : Calls Tryz.prog 159 #[.string s, .int .u8 (c.toNat : Int)] w fun e w' => e = .returned (.bool b) ∧ w = w' := by
  have HB := Lib.hid hb
  clear hb
  go_enter Tryz.func159, Tryz.ntmps159
  go_wp2_with fail
  go_loopg [5] s.size (fun g i wr => ∃ j : Nat, j ≤ s.size ∧ g + j = s.size ∧ i = .int .i64 j ∧ Hid (∀ x ∈ s.data.toList.take j, x ≠ c) ∧ w = wr)
  case atStart => exact ⟨0, by omega, by omega, rfl, (by show ∀ _, _; simp), rfl⟩
  case round =>
    obtain ⟨j, hj, hg, rfl, HN, rfl⟩ := hrel
    by_cases hjl : j < s.size
    · have hjL : j < s.data.toList.length := by rw [← Lib.size_eq]; exact hjl
      by_cases h : s[j] = c
      · have hT : (((s[j]).toNat : Int) == (c.toNat : Int)) = true := by rw [h]; simp
        have hbt : b = true := by
          rw [← HB.out]
          exact decide_eq_true (by rw [← h, getD_data s j hjl]; exact List.getElem_mem _)
        subst hbt
        clear h
        go_wp2_with fail
        try rw [Exit.noGoto_ret]
        go_ret
        exact ⟨rfl, rfl⟩
      · have hT : (((s[j]).toNat : Int) == (c.toNat : Int)) = false := by
          rw [beq_eq_false_iff_ne]
          intro e
          exact h (UInt8.toNat_inj.1 (by omega))
        have HN' : Hid (∀ x ∈ s.data.toList.take (j + 1), x ≠ c) := by
          show ∀ _, _
          rw [List.take_succ_eq_append_getElem hjL]
          intro x hx
          rw [List.mem_append, List.mem_singleton] at hx
          rcases hx with hx | rfl
          · exact HN.out x hx
          · rw [← getD_data s j hjl]; exact h
        clear h
        go_wp2_with fail
        go_roundg (gk - 1)
        case measure => omega
        case rel => exact ⟨j + 1, by omega, by omega, by go_num, HN', rfl⟩
    · have hbt : b = false := by
        rw [← HB.out]
        refine decide_eq_false (fun hc => ?_)
        have := HN.out c (by rw [List.take_of_length_le (by rw [← Lib.size_eq]; omega)]; exact hc)
        exact this rfl
      subst hbt
      have hkl : ¬ ((j : Int) < (s.size : Int)) := by omega
      clear hjl
      go_wp2_with fail
      go_ret
      exact ⟨rfl, rfl⟩

set_option maxRecDepth 100000 in
theorem rhas0 (s : ByteArray) (b : Bool) (w : World) (hm : s.size ≤ 9223372036854775807) (hb : decide ((0 : UInt8) ∈ s.data.toList) = b) : Calls Tryz.prog 159 #[.string s, .int .u8 0] w fun e w' => e = .returned (.bool b) ∧ w = w' := rhas_any s 0 b w hm hb
set_option maxRecDepth 100000 in
theorem rhas47 (s : ByteArray) (b : Bool) (w : World) (hm : s.size ≤ 9223372036854775807) (hb : decide ((47 : UInt8) ∈ s.data.toList) = b) : Calls Tryz.prog 159 #[.string s, .int .u8 47] w fun e w' => e = .returned (.bool b) ∧ w = w' := rhas_any s 47 b w hm hb

set_option maxRecDepth 100000 in
set_option maxHeartbeats 1000000 in
theorem rname_any (s : ByteArray) (w : World) (hm : s.size ≤ 9223372036854775807) : Calls Tryz.prog 120 #[.string s] w (NameE w s.data.toList) := by
  by_cases h0 : s.size = 0
  · have HR := Lib.hid (show nerr s.data.toList = 2 by unfold nerr; rw [if_pos (List.eq_nil_of_length_eq_zero (by rw [← Lib.size_eq]; exact h0))])
    go_enter Tryz.func120, Tryz.ntmps120
    go_wp2_with fail
    go_ret
    exact ⟨by rw [HR.out]; rfl, Below.refl _ _⟩
  · have hne : s.data.toList ≠ [] := fun e => h0 (by rw [Lib.size_eq, e]; rfl)
    by_cases h60 : 60 < s.size
    · have HR := Lib.hid (show nerr s.data.toList = 36 by unfold nerr; rw [if_neg hne, if_pos (by rw [← Lib.size_eq]; exact h60)])
      clear hne
      go_enter Tryz.func120, Tryz.ntmps120
      go_wp2_with fail
      go_ret
      exact ⟨by rw [HR.out]; rfl, Below.refl _ _⟩
    · have HF := Lib.hid (show nerr s.data.toList = if (decide ((0 : UInt8) ∈ s.data.toList) || decide ((47 : UInt8) ∈ s.data.toList)) = true then 22 else 0 by
        unfold nerr; rw [if_neg hne, if_neg (by rw [← Lib.size_eq]; exact h60)]; simp)
      clear hne
      have hA := fun w => rhas0 s _ w hm rfl
      have hB := fun w => rhas47 s _ w hm rfl
      generalize decide ((0 : UInt8) ∈ s.data.toList) = b0 at *
      generalize decide ((47 : UInt8) ∈ s.data.toList) = b47 at *
      unfold NameE
      cases b0
      · cases b47
        · go_enter Tryz.func120, Tryz.ntmps120
          go_wp2_with fail
          refine (hA _).mono ?_
          rintro e w' ⟨rfl, rfl⟩
          go_wp2_with fail
          refine (hB _).mono ?_
          rintro e w' ⟨rfl, rfl⟩
          go_wp2_with fail
          go_ret
          exact ⟨by rw [HF.out]; rfl, Below.refl _ _⟩
        · go_enter Tryz.func120, Tryz.ntmps120
          go_wp2_with fail
          refine (hA _).mono ?_
          rintro e w' ⟨rfl, rfl⟩
          go_wp2_with fail
          refine (hB _).mono ?_
          rintro e w' ⟨rfl, rfl⟩
          go_wp2_with fail
          go_ret
          exact ⟨by rw [HF.out]; rfl, Below.refl _ _⟩
      · go_enter Tryz.func120, Tryz.ntmps120
        go_wp2_with fail
        refine (hA _).mono ?_
        rintro e w' ⟨rfl, rfl⟩
        go_wp2_with fail
        go_ret
        exact ⟨by rw [HF.out]; rfl, Below.refl _ _⟩

theorem bl_pre (p a b : Bs) : Op.bytesLess (p ++ a) (p ++ b) = Op.bytesLess a b := by
  induction p with
  | nil => rfl
  | cons x p ih => simp [Op.bytesLess, ih]
theorem bl_at (a b : Bs) (j : Nat) (h : a.take j = b.take j) : Op.bytesLess a b = Op.bytesLess (a.drop j) (b.drop j) := by
  conv => lhs; rw [← List.take_append_drop j a, ← List.take_append_drop j b, h]
  exact bl_pre _ _ _
theorem bl_head (x y : UInt8) (a b : Bs) (h : x ≠ y) : Op.bytesLess (x :: a) (y :: b) = decide (x.toNat < y.toNat) := by
  have h2 : (x == y) = false := by simpa using h
  simp only [Op.bytesLess, h2, Bool.false_and, Bool.or_false]
  by_cases hl : x < y
  · rw [decide_eq_true hl, decide_eq_true (UInt8.lt_iff_toNat_lt.1 hl)]
  · rw [decide_eq_false hl, decide_eq_false (fun e => hl (UInt8.lt_iff_toNat_lt.2 e))]
theorem bl_nil (a b : Bs) (h : a = [] ∨ b = []) : Op.bytesLess a b = decide (a.length < b.length) := by
  cases a with
  | nil => cases b <;> simp [Op.bytesLess]
  | cons x a =>
    rcases h with h | h
    · exact absurd h (by simp)
    · subst h; simp [Op.bytesLess]

set_option maxRecDepth 100000 in
set_option maxHeartbeats 2000000 in
theorem rless_any (a b : ByteArray) (w : World) (ha : a.size ≤ 9223372036854775807) (hb : b.size ≤ 9223372036854775807) : Calls Tryz.prog 61 #[.string a, .string b] w fun e w' => e = .returned (.bool (lessB a b)) ∧ Below w.heap.size w w' := by
  have HB : ∀ r, Op.bytesLess a.data.toList b.data.toList = r → Hid (lessB a b = r) := fun r h => Lib.hid (by rw [← h]; simp [lessB, Lib.toList_data])
  go_enter Tryz.func61, Tryz.ntmps61
  go_wp2_with fail
  go_loopg [5] a.size (fun g i wr => ∃ j : Nat, j ≤ a.size ∧ j ≤ b.size ∧ g + j = a.size ∧ i = .int .i64 j ∧ Hid (a.data.toList.take j = b.data.toList.take j) ∧ Below w.heap.size w wr)
  case atStart => exact ⟨0, by omega, by omega, by omega, rfl, Lib.hid (by simp), Below.refl _ _⟩
  case round =>
    obtain ⟨j, hja, hjb, hg, rfl, HT, hbr⟩ := hrel
    by_cases h1 : j < a.size
    · by_cases h2 : j < b.size
      · have hA : j < a.data.toList.length := by rw [← Lib.size_eq]; exact h1
        have hB : j < b.data.toList.length := by rw [← Lib.size_eq]; exact h2
        have dA : a.data.toList.drop j = a[j] :: a.data.toList.drop (j + 1) := by rw [List.drop_eq_getElem_cons hA, getD_data a j h1]
        have dB : b.data.toList.drop j = b[j] :: b.data.toList.drop (j + 1) := by rw [List.drop_eq_getElem_cons hB, getD_data b j h2]
        by_cases h : a[j] = b[j]
        · have hT : (((a[j]).toNat : Int) != ((b[j]).toNat : Int)) = false := by rw [h]; simp
          have HT' := Lib.hid (show a.data.toList.take (j + 1) = b.data.toList.take (j + 1) by
            rw [List.take_succ_eq_append_getElem hA, List.take_succ_eq_append_getElem hB, HT.out, ← getD_data a j h1, ← getD_data b j h2, h])
          clear h dA dB HB
          go_wp2_with fail
          go_region
          all_goals
            go_wp2_with fail
            go_roundg (gk - 1)
            case measure => omega
            case rel => exact ⟨j + 1, by omega, by omega, by omega, by go_num, HT', hbr.drew⟩
        · have hT : (((a[j]).toNat : Int) != ((b[j]).toNat : Int)) = true := by
            rw [bne_iff_ne]; intro e; exact h (UInt8.toNat_inj.1 (by omega))
          have HR := HB (decide ((a[j]).toNat < (b[j]).toNat)) (by rw [bl_at _ _ j HT.out, dA, dB, bl_head _ _ _ _ h])
          clear h dA dB HB
          go_wp2_with fail
          go_region
          all_goals
            go_wp2_with fail
            go_region
            all_goals
              go_wp2_with fail
              try rw [Exit.noGoto_ret]
              go_ret
              exact ⟨by rw [HR.out]; rfl, hbr.drew.drew⟩
      · have HR := HB (decide (a.size < b.size)) (by
          rw [bl_at _ _ j HT.out, bl_nil _ _ (.inr (List.drop_eq_nil_of_le (by rw [← Lib.size_eq]; omega))), List.length_drop, List.length_drop, ← Lib.size_eq, ← Lib.size_eq]
          rw [Bool.eq_iff_iff]; simp; omega)
        have hjn : ¬ ((j : Int) < (b.size : Int)) := by omega
        clear HB h2
        go_wp2_with fail
        go_ret
        exact ⟨by rw [HR.out]; rfl, hbr⟩
    · have HR := HB (decide (a.size < b.size)) (by
        rw [bl_at _ _ j HT.out, bl_nil _ _ (.inl (List.drop_eq_nil_of_le (by rw [← Lib.size_eq]; omega))), List.length_drop, List.length_drop, ← Lib.size_eq, ← Lib.size_eq]
        rw [Bool.eq_iff_iff]; simp; omega)
      have hjn : ¬ ((j : Int) < (a.size : Int)) := by omega
      clear HB h1
      go_wp2_with fail
      go_ret
      exact ⟨by rw [HR.out]; rfl, hbr⟩
end Go.Proofs.YtkbdmjcdhkdanaaGreat.dn
end
section
namespace Go.Proofs.YtkbdmjcdhkdanaaGreat.dn
open Go.RowKit Go.Shelf
set_option linter.unusedVariables false


theorem find_at {L : List En} {p : En → Bool} {k : Nat} {x : En} (hx : L[k]? = some x) (hp : p x = true) (hb : ∀ e ∈ L.take k, p e = false) : L.find? p = some x := by
  have hk := (List.getElem?_eq_some_iff.1 hx).1
  have hxx : L[k] = x := (List.getElem?_eq_some_iff.1 hx).2
  have e : L = L.take k ++ x :: L.drop (k + 1) := by rw [← hxx, List.getElem_cons_drop, List.take_append_drop]
  have h1 : (L.take k).find? p = none := List.find?_eq_none.2 fun y hy => by rw [hb y hy]; decide
  rw [e, List.find?_append, h1, List.find?_cons, hp]
  rfl
theorem before_next {L : List En} {p : En → Bool} {k : Nat} {x : En} (hx : L[k]? = some x) (hp : p x = false) (hb : ∀ e ∈ L.take k, p e = false) : ∀ e ∈ L.take (k + 1), p e = false := by
  rw [List.take_add_one, hx]
  intro e he
  rcases List.mem_append.1 he with he | he
  · exact hb e he
  · simp at he; rw [he]; exact hp

set_option maxRecDepth 100000 in
set_option maxHeartbeats 2000000 in
theorem rget_any (D lo c : Nat) (o : Option Nat) (L : List En) (s : ByteArray) (w : World) (hN : L.length ≤ 1000000) (h : Du w D lo o c L) :
    Calls Tryz.prog 101 #[Pq D, .string s] w (fun e w' => e = .returned (getV s L) ∧ w' = w) := by
  have d0 := h.d0
  have HH := Lib.hid h
  obtain ⟨r, hr⟩ : ∃ r, getV s L = r := ⟨_, rfl⟩
  rw [hr]
  have HYES := Lib.hid (fun (k : Nat) (x : En) (hx : L[k]? = some x) (hs : x.1 = s) (hb : ∀ e ∈ L.take k, decide (e.1 = s) = false) => (by
    rw [← hr]; unfold getV lget; rw [find_at hx (decide_eq_true hs) hb]; rfl : r = .tuple #[.int .i64 x.2, .int .i64 0]))
  have HNO := Lib.hid (fun (hb : ∀ e ∈ L, decide (e.1 = s) = false) => (by
    rw [← hr]; unfold getV lget; rw [List.find?_eq_none.2 fun y hy => by rw [hb y hy]; decide]; rfl : r = .tuple #[.int .i64 0, .int .i64 2]))
  generalize hn : L.length = n at *
  have HN2 := Lib.hid hn
  clear hn hr h
  go_enter Tryz.func101, Tryz.ntmps101
  go_wp2_with fail
  go_loopg [6] n (fun g s6 wr => ∃ k : Nat, g + k = n ∧ s6 = .int .i64 k ∧ Hid (∀ e ∈ L.take k, decide (e.1 = s) = false) ∧ wr = w)
  case atStart => exact ⟨0, by omega, rfl, Lib.hid (by simp), rfl⟩
  case round =>
    obtain ⟨k, hgk, rfl, HB, rfl⟩ := hrel
    by_cases hkn : k < n
    · have hx : L[k]? = some (L[k]'(by rw [HN2.out]; exact hkn)) := List.getElem?_eq_getElem _
      obtain ⟨G, rfl, f0, f1⟩ := HH.out.at_ hx
      generalize L[k]'(by rw [HN2.out]; exact hkn) = x at *
      by_cases hs : x.1 = s
      · have HR := Lib.hid (HYES.out k x hx hs HB.out)
        have hq : (x.1.toList == s.toList) = true := by rw [beq_names]; exact decide_eq_true hs
        obtain ⟨xs, xv⟩ := x
        dsimp only at f0 f1 hq
        clear hx hs HYES HNO
        go_wp2_with fail
        try rw [Exit.noGoto_ret]
        go_ret2
        exact ⟨by rw [HR.out]; first | done | rfl, rfl⟩
      · have HB2 := Lib.hid (before_next hx (decide_eq_false hs) HB.out)
        have hq : (x.1.toList == s.toList) = false := by rw [beq_names]; exact decide_eq_false hs
        obtain ⟨xs, xv⟩ := x
        dsimp only at f0 f1 hq
        clear hx hs HYES HNO
        go_wp2_with fail
        go_roundg (gk - 1)
        case measure => omega
        case rel => exact ⟨k + 1, by omega, by go_num, HB2, rfl⟩
    · have HR := Lib.hid (HNO.out (by have := HB.out; rwa [List.take_of_length_le (by rw [HN2.out]; omega)] at this))
      have hjn : ¬ ((k : Int) < (n : Int)) := by omega
      clear HYES HNO hkn
      go_wp2_with fail
      go_ret2
      exact ⟨by rw [HR.out]; first | done | rfl, rfl⟩

end Go.Proofs.YtkbdmjcdhkdanaaGreat.dn
end
section
namespace Go.Proofs.YtkbdmjcdhkdanaaGreat.dn
open Go.RowKit Go.Shelf
set_option linter.unusedVariables false


theorem below_grown_far {w w1 w2 : World} {B : Nat} (h : Below w.heap.size w w1) (hg : w1.grownBy w2 (some B)) (hB : w.heap.size ≤ B) : Below w.heap.size w w2 :=
  h.trans ⟨hg.os, hg.tape, hg.output, hg.size, fun k hk => hg.block k (by have := h.size; omega) (fun e => by injection e with e; omega)⟩

theorem lo_next {lo gg g2 k cap M : Nat} (hlo : lo ≤ gg) (hM : lo ≤ M) (hat : (Value.slice (some ⟨gg, 0, none⟩) k cap).ownBlock = some g2 ∨ g2 = M) : lo ≤ g2 := by
  rcases hat with e | e
  · have h : gg = g2 := by simpa [Value.ownBlock] using e
    rw [← h]; exact hlo
  · rw [e]; exact hM
theorem app_owns {w w' : World} {gg cap k : Nat} {K : List En} (h : ERow w gg cap K) (hk : k = K.length) (hb : Below w.heap.size w w') : w'.ownsRow 0 91 2 (.slice (some ⟨gg, 0, none⟩) k cap) k (encL K) := by
  subst hk
  exact (h.of_block (hb.block gg h.lt)).owns (Nat.zero_le _)
theorem app_row {w : World} {gg cap k : Nat} {K : List En} {x : En} (h : w.ownsRow 0 91 2 (.slice (some ⟨gg, 0, none⟩) (k + 1) cap) (k + 1) (encL K ++ encL [x])) (hk : k = K.length) : ERow w gg cap (K ++ [x]) := by
  rw [← encL_append] at h
  exact (ERow.of_owns h (by simp [hk])).1
theorem row_new (w : World) : ERow (w.alloc (.cells #[] 91)) w.heap.size 0 [] := ⟨Nat.le_refl _, by unfold maxLen; omega, [], heap_alloc_new w _, rfl, rfl⟩
/-- A new row laid into the directory's box. -/
theorem Du.laid {w w4 : World} {D lo c gg cap n : Nat} {o : Option Nat} {L K : List En} {vv : Value} (h : Du w D lo o c L) (hlo : lo ≤ w.heap.size) (hb : Below w.heap.size w w4) (hg : w.heap.size ≤ gg) (hr : ERow w4 gg cap K) (hK : n = K.length) :
    w4.cell? ⟨D, 0, none⟩ = some (.slice (Ao o) L.length c) ∧ w4.frozen? ⟨D, 0, none⟩ = false ∧ StepE w D lo o vv K (.returned vv) (w4.setCell ⟨D, 0, none⟩ (.slice (some ⟨gg, 0, none⟩) n cap)) := by
  subst hK
  have hD := h.lt
  have h4 := h.below hb
  have hDG : D ≠ gg := by omega
  refine ⟨h4.d0, h4.f0, rfl, some gg, cap, ⟨?_, by simpa using h4.f0, Nat.le_trans hlo hg, hDG, hr.of_block (Below.heap_setCell _ _ _ _ (fun e => hDG (by simpa using e.symm)))⟩, fun G e => by injection e with e; subst e; exact .inr hg, (Fr.below hb).trans (Fr.setQ w4 D o _) (fun k e => .inl e)⟩
  rw [World.cell?_setCell_same _ _ _ h4.d0]; rfl
theorem ldel_take {L : List En} {s : ByteArray} {k : Nat} {x : En} (hx : L[k]? = some x) : ldel s (L.take (k + 1)) = ldel s (L.take k) ++ if x.1 = s then [] else [x] := by
  unfold ldel
  rw [List.take_add_one, hx, List.filter_append]
  by_cases h : x.1 = s <;> simp [h]

set_option maxRecDepth 100000 in
set_option maxHeartbeats 4000000 in
theorem rdel_any (D lo c : Nat) (o : Option Nat) (L : List En) (s : ByteArray) (w : World) (hlo : lo ≤ w.heap.size) (hN : L.length ≤ 900000) (h : Du w D lo o c L) :
    Calls Tryz.prog 88 #[Pq D, .string s] w (StepE w D lo o (getV s L) (ldel s L)) := by
  obtain ⟨i0, hi, hz0, hz1, hz2⟩ := info_parts info37
  have HG := Lib.hid (rget_any D lo c o L s w (by omega) h)
  have hD := h.lt
  have d00 := h.d0
  have HH := Lib.hid h
  obtain ⟨v1, v2, hv⟩ : ∃ v1 v2, getV s L = .tuple #[.int .i64 v1, .int .i64 v2] := by unfold getV; cases lget s L <;> exact ⟨_, _, rfl⟩
  rw [hv] at HG ⊢
  have HST := Lib.hid (fun (w4 : World) (gg cap m : Nat) hb hg hr (hm : m = (ldel s L).length) => Du.laid (w4 := w4) (gg := gg) (cap := cap) (K := ldel s L) (vv := .tuple #[.int .i64 v1, .int .i64 v2]) h hlo hb hg hr hm)
  have hE0 := Lib.hid (row_new w)
  have HB0 := Lib.hid (below_alloc w (.cells #[] 91))
  generalize hn : L.length = n at *
  have HN2 := Lib.hid hn
  have HLO := Lib.hid hlo
  clear hn h hv hlo
  go_enter Tryz.func88, Tryz.ntmps88
  go_wp2_with fail
  refine HG.out.mono ?_
  rintro e w2 ⟨rfl, hw2⟩
  subst hw2
  clear HG
  go_wp2_with fail
  go_loopg [8, 9] n (fun g s8 s9 wr => ∃ (k m gg cap : Nat), g + k = n ∧ s9 = .int .i64 k ∧ s8 = .slice (some ⟨gg, 0, none⟩) m cap ∧ m ≤ k ∧ w2.heap.size ≤ gg ∧ Hid (m = (ldel s (L.take k)).length) ∧ Hid (ERow wr gg cap (ldel s (L.take k))) ∧ Hid (Below w2.heap.size w2 wr))
  case atStart => exact ⟨0, 0, w2.heap.size, 0, by omega, rfl, rfl, Nat.le_refl _, Nat.le_refl _, Lib.hid rfl, hE0, HB0⟩
  case round =>
    clear hE0 HB0 d00
    obtain ⟨k, m, gg, cap, hgk, rfl, rfl, hmk, hlg, HM, HE, HB⟩ := hrel
    have HDr := Lib.hid (HH.out.below HB.out)
    have d0 := HDr.out.d0
    rw [HN2.out] at d0
    by_cases hkn : k < n
    · have hx : L[k]? = some (L[k]'(by rw [HN2.out]; exact hkn)) := List.getElem?_eq_getElem _
      obtain ⟨G, rfl, f0, f1⟩ := HDr.out.at_ hx
      generalize L[k]'(by rw [HN2.out]; exact hkn) = x at *
      have HT := Lib.hid (ldel_take (s := s) hx)
      by_cases hs : x.1 = s
      · have HT2 := Lib.hid (show ldel s (L.take (k + 1)) = ldel s (L.take k) by rw [HT.out, if_pos hs, List.append_nil])
        have hq : (x.1.toList == s.toList) = true := by rw [beq_names]; exact decide_eq_true hs
        obtain ⟨xs, xv⟩ := x
        dsimp only at f0 f1 hq
        clear hx hs HT HST
        go_wp2_with fail
        go_roundg (gk - 1)
        case measure => omega
        case rel => exact ⟨k + 1, m, gg, cap, by omega, by go_num, rfl, by omega, hlg, Lib.hid (by rw [HT2.out]; exact HM.out), Lib.hid (by rw [HT2.out]; exact HE.out), HB⟩
      · have HT2 := Lib.hid (show ldel s (L.take (k + 1)) = ldel s (L.take k) ++ [x] by rw [HT.out, if_neg hs])
        have hq : (x.1.toList == s.toList) = false := by rw [beq_names]; exact decide_eq_false hs
        obtain ⟨xs, xv⟩ := x
        dsimp only at f0 f1 hq
        have HO := Lib.hid (app_owns HE.out HM.out (below_alloc wr (.cells #[.string xs, .int .i64 xv] 91)))
        have HX := Lib.hid (cells_of_box (x := (xs, xv)) (heap_alloc_new wr (.cells #[.string xs, .int .i64 xv] 91)))
        have H1 := Lib.hid (encL_one [(xs, xv)])
        have HBA := Lib.hid (below_step HB.out (below_alloc wr (.cells #[.string xs, .int .i64 xv] 91)))
        clear hx hs HT HST
        go_wp2_with (at_builtin; refine wpList_append_lies _ (by rfl) _ _ _ (by rfl) 0 91 i0 _ 2 24 Tryz.underlying87 hi hz0 hz1 hz2 (by rfl) (by decide) _ _ _ (by rfl) HO.out ⟨wr.heap.size, 0, none⟩ 1 1 (encL [(xs, xv)]) (by rfl) (by rfl) HX.out H1.out (by omega) (by unfold maxLen; omega) (by omega) (Nat.zero_le _) _ rfl ?_; intro g2 cap2 w10 hown1 hgrow hat hlt3)
        have HE2 := Lib.hid (app_row hown1 HM.out)
        have HB2 := Lib.hid (below_grown_far HBA.out hgrow hlg)
        have hg2 := lo_next hlg HBA.out.size hat
        clear hown1 hgrow hat hlt3
        go_wp2_with fail
        go_roundg (gk - 1)
        case measure => omega
        case rel => exact ⟨k + 1, m + 1, g2, cap2, by omega, by go_num, rfl, by omega, hg2, Lib.hid (by rw [HT2.out, List.length_append, HM.out]; rfl), Lib.hid (by rw [HT2.out]; exact HE2.out), HB2⟩
    · have hte : L.take k = L := List.take_of_length_le (by rw [HN2.out]; omega)
      rw [hte] at HM HE
      obtain ⟨c0, c1, hst⟩ := HST.out wr gg cap m HB.out hlg HE.out HM.out
      have HR := Lib.hid hst
      have hjn : ¬ ((k : Int) < (n : Int)) := by omega
      clear hkn HST hst hte HM HE
      go_wp2_with fail
      go_ret2
      exact HR.out
end Go.Proofs.YtkbdmjcdhkdanaaGreat.dn
end
section
namespace Go.Proofs.YtkbdmjcdhkdanaaGreat.dn
open Go.RowKit Go.Shelf
set_option linter.unusedVariables false


/-- One round of the document's Set: what is laid out so far, and whether the new entry is in. -/
def rstep (s : ByteArray) (v : Int) (st : List En × Bool) (x : En) : List En × Bool :=
  let st1 := if !st.2 && !lessB x.1 s then (st.1 ++ [(s, v)], true) else st
  (if x.1 = s then st1.1 else st1.1 ++ [x], st1.2)
def rfold (s : ByteArray) (v : Int) (l : List En) : List En × Bool := l.foldl (rstep s v) ([], false)
theorem rfold_next {s : ByteArray} {v : Int} {L : List En} {k : Nat} {x : En} (hx : L[k]? = some x) : rfold s v (L.take (k + 1)) = rstep s v (rfold s v (L.take k)) x := by
  unfold rfold
  rw [List.take_add_one, hx, List.foldl_append]
  rfl
theorem rfold_done (s : ByteArray) (v : Int) (l : List En) (out : List En) (h : ∀ x ∈ l, x.1 ≠ s) : l.foldl (rstep s v) (out, true) = (out ++ l, true) := by
  induction l generalizing out with
  | nil => simp
  | cons x l ih =>
    rw [List.foldl_cons]
    have : rstep s v (out, true) x = (out ++ [x], true) := by simp [rstep, h x (by simp)]
    rw [this, ih _ (fun y hy => h y (by simp [hy]))]
    simp
theorem rfold_lset (s : ByteArray) (v : Int) (l out : List En) (h : Sorted l) : (let st := l.foldl (rstep s v) (out, false); if st.2 then st.1 else st.1 ++ [(s, v)]) = out ++ lset s v l := by
  induction l generalizing out with
  | nil => simp [lset]
  | cons x l ih =>
    obtain ⟨h1, h2⟩ := h.cons
    rw [List.foldl_cons]
    unfold lset
    by_cases hx : lessB x.1 s = true
    · rw [if_pos hx]
      have : rstep s v (out, false) x = (out ++ [x], false) := by simp [rstep, hx, less_ne hx]
      rw [this, ih _ h1]
      simp
    · rw [if_neg hx]
      have hx' : lessB x.1 s = false := by simpa using hx
      by_cases hs : x.1 = s
      · rw [if_pos hs]
        have : rstep s v (out, false) x = (out ++ [(s, v)], true) := by simp [rstep, hs, less_irrefl]
        rw [this, rfold_done s v l _ (fun y hy e => less_ne (h2 y hy) (hs.trans e.symm))]
        simp
      · rw [if_neg hs]
        have : rstep s v (out, false) x = (out ++ [(s, v)] ++ [x], true) := by simp [rstep, hx', hs]
        rw [this, rfold_done s v l _ (fun y hy e => less_ne (less_trans (less_of hs hx') (h2 y hy)) e.symm)]
        simp
theorem rfold_all {s : ByteArray} {v : Int} {L K : List En} {d : Bool} (h : Sorted L) (hf : rfold s v L = (K, d)) : lset s v L = if d then K else K ++ [(s, v)] := by
  have := rfold_lset s v L [] h
  unfold rfold at hf
  rw [hf] at this
  simpa using this.symm

set_option maxRecDepth 100000 in
set_option maxHeartbeats 1000000 in
theorem rset_name (D lo c : Nat) (o : Option Nat) (L : List En) (s : ByteArray) (v : Int) (w : World) (hm : s.size ≤ 9223372036854775807) (h : Du w D lo o c L) (he : nerr s.data.toList ≠ 0) :
    Calls Tryz.prog 85 #[Pq D, .string s, .int .i64 v] w (StepE w D lo o (.int .i64 (nerr s.data.toList)) L) := by
  have HN := Lib.hid (rname_any s w hm)
  unfold NameE at HN
  have HF := Lib.hid (fun w' hb => stepE_same (v := .int .i64 (nerr s.data.toList)) (w' := w') h hb)
  generalize nerr s.data.toList = r at *
  have hr : (r != 0) = true := by simpa using he
  have hr2 : (r == 0) = false := by simpa using he
  clear h he
  go_enter Tryz.func85, Tryz.ntmps85
  go_wp2_with fail
  refine HN.out.mono ?_
  rintro e w2 ⟨rfl, hb2⟩
  go_wp2_with fail
  go_ret
  exact HF.out _ hb2
set_option maxRecDepth 100000 in
set_option maxHeartbeats 1000000 in
theorem rset_dot (D lo c : Nat) (o : Option Nat) (L : List En) (s : ByteArray) (v : Int) (w : World) (hm : s.size ≤ 9223372036854775807) (h : Du w D lo o c L) (he : nerr s.data.toList = 0) (hd : dotB s = true ∨ v < 1) :
    Calls Tryz.prog 85 #[Pq D, .string s, .int .i64 v] w (StepE w D lo o (.int .i64 22) L) := by
  have HN := Lib.hid (rname_any s w hm)
  unfold NameE at HN
  rw [he] at HN
  have HF := Lib.hid (fun w' hb => stepE_same (v := .int .i64 22) (w' := w') h hb)
  unfold dotB at hd
  obtain ⟨q1, h1⟩ : ∃ a, (s.toList == [46]) = a := ⟨_, rfl⟩
  obtain ⟨q2, h2⟩ : ∃ a, (s.toList == [46, 46]) = a := ⟨_, rfl⟩
  rw [h1, h2] at hd
  clear h he
  have hd' : q1 = true ∨ (q1 = false ∧ q2 = true) ∨ (q1 = false ∧ q2 = false ∧ v < 1) := by
    cases q1 <;> cases q2 <;> simp at hd ⊢ <;> exact hd
  clear hd
  rcases hd' with rfl | ⟨rfl, rfl⟩ | ⟨rfl, rfl, hv⟩
  all_goals
    go_enter Tryz.func85, Tryz.ntmps85
    go_wp2_with fail
    refine HN.out.mono ?_
    rintro e w2 ⟨rfl, hb2⟩
    go_wp2_with fail
    go_ret
    exact HF.out _ hb2

set_option maxHeartbeats 8000000 in
set_option maxRecDepth 100000 in
theorem rset_ok (D lo c : Nat) (o : Option Nat) (L : List En) (s : ByteArray) (v : Int) (w : World) (hm : s.size ≤ 9223372036854775807) (hL : ∀ e ∈ L, e.1.size ≤ 9223372036854775807) (h : Du w D lo o c L) (hlo : lo ≤ w.heap.size) (hs : Sorted L) (hN : L.length ≤ 400000) (he : nerr s.data.toList = 0) (hd : dotB s = false) (hv : ¬ v < 1) :
    Calls Tryz.prog 85 #[Pq D, .string s, .int .i64 v] w (StepE w D lo o (.int .i64 0) (lset s v L)) := by
  obtain ⟨i0, hi, hz0, hz1, hz2⟩ := info_parts info37
  have HNA := Lib.hid (rname_any s w hm)
  unfold NameE at HNA
  rw [he] at HNA
  have HH := Lib.hid h
  have HLS := Lib.hid hL
  have HSO := Lib.hid hs
  have HLO := Lib.hid hlo
  have HST := Lib.hid (fun (w4 : World) (gg cap m : Nat) hb hg hr (hm : m = (lset s v L).length) => Du.laid (w4 := w4) (gg := gg) (cap := cap) (K := lset s v L) (vv := .int .i64 0) h hlo hb hg hr hm)
  have HALL := Lib.hid (fun K d (hf : rfold s v L = (K, d)) => rfold_all hs hf)
  have hq : (s.toList == [46]) = false ∧ (s.toList == [46, 46]) = false := by simpa [dotB] using hd
  obtain ⟨hq1, hq2⟩ := hq
  have HNX := Lib.hid (fun k x (hx : L[k]? = some x) => rfold_next (s := s) (v := v) hx)
  have H1 := Lib.hid (encL_one [(s, v)])
  generalize hn : L.length = n at *
  generalize hKK : lset s v L = KK at *
  have HN2 := Lib.hid hn
  have HKK := Lib.hid hKK
  clear hn h hlo hs he hd hL hKK
  go_enter Tryz.func85, Tryz.ntmps85
  go_wp2_with fail
  refine HNA.out.mono ?_
  rintro e w2 ⟨rfl, hb2⟩
  have HB2 := Lib.hid hb2
  have hE0 := Lib.hid (row_new w2)
  have HB0 := Lib.hid (below_step hb2 (below_alloc w2 (.cells #[] 91)))
  have hlg0 := hb2.size
  have d0 := (HH.out.below HB0.out).d0
  clear hb2 HNA
  go_wp2_with fail
  go_loopg [8, 9, 10] n (fun g s8 s9 s10 wr => ∃ (k m gg cap : Nat) (K : List En) (d : Bool), g + k = n ∧ s10 = .int .i64 k ∧ s9 = .bool d ∧ s8 = .slice (some ⟨gg, 0, none⟩) m cap ∧ m ≤ 2 * k ∧ w.heap.size ≤ gg ∧ Hid (rfold s v (L.take k) = (K, d)) ∧ Hid (m = K.length) ∧ Hid (ERow wr gg cap K) ∧ Hid (Below w.heap.size w wr))
  case atStart => exact ⟨0, 0, w2.heap.size, 0, [], false, by omega, rfl, rfl, rfl, Nat.le_refl _, hlg0, Lib.hid rfl, Lib.hid rfl, hE0, HB0⟩
  case round =>
    clear hE0 HB0 d0
    obtain ⟨k, m, gg, cap, K, d, hgk, rfl, rfl, rfl, hmk, hlg, HR, HM, HE, HB⟩ := hrel
    have HDr := Lib.hid (HH.out.below HB.out)
    have d0 := HDr.out.d0
    rw [HN2.out] at d0
    by_cases hkn : k < n
    · have hx : L[k]? = some (L[k]'(by rw [HN2.out]; exact hkn)) := List.getElem?_eq_getElem _
      have hxz := HLS.out _ (List.mem_of_getElem? hx)
      obtain ⟨G, rfl, f0, f1⟩ := HDr.out.at_ hx
      generalize L[k]'(by rw [HN2.out]; exact hkn) = x at *
      have HRN := Lib.hid ((HNX.out k x hx).trans (by rw [HR.out]))
      have HXK := Lib.hid hx
      obtain ⟨xs, xv⟩ := x
      dsimp only at f0 f1 hxz
      have HX1 := Lib.hid (encL_one [(xs, xv)])
      have HFA := Lib.hid (fun W (hb : Below w.heap.size w W) => (by
        obtain ⟨G4, hG4, q0, q1⟩ := (HH.out.below hb).at_ HXK.out
        obtain rfl : G = G4 := by injection hG4
        exact ⟨q0, q1⟩ : W.cell? ⟨G, k * 2, none⟩ = some (.string xs) ∧ W.cell? ⟨G, k * 2 + 1, none⟩ = some (.int .i64 xv)))
      have HC := Lib.hid (rless_any xs s wr hxz hm)
      obtain ⟨q, hq⟩ : ∃ q, lessB xs s = q := ⟨_, rfl⟩
      rw [hq] at HC
      have HQ := Lib.hid hq
      clear hx hq hxz HST HALL HNX
      cases d
      · cases q
        · by_cases hs : xs = s
          · have hqq : (xs.toList == s.toList) = true := by rw [beq_names]; exact decide_eq_true hs
            have HRS := Lib.hid (HRN.out.trans (show _ = (K ++ [(s, v)], true) by simp [rstep, hs, less_irrefl]))
            clear hs HRN
            go_wp2_with fail
            refine HC.out.mono ?_
            rintro e w3 ⟨rfl, hb3⟩
            have HB3 := Lib.hid (below_step HB.out hb3)
            have HE3 := Lib.hid (HE.out.of_block (hb3.block gg HE.out.lt))
            have d3 := (HH.out.below HB3.out).d0
            rw [HN2.out] at d3
            clear hb3 HC d0 f0 f1
            have HO4 := Lib.hid (app_owns HE3.out HM.out (below_alloc w3 (.cells #[.string s, .int .i64 v] 91)))
            have HX4 := Lib.hid (cells_of_box (x := (s, v)) (heap_alloc_new w3 (.cells #[.string s, .int .i64 v] 91)))
            have HBA4 := Lib.hid (below_step HB3.out (below_alloc w3 (.cells #[.string s, .int .i64 v] 91)))
            go_upto_region 13 with (at_builtin; refine wpList_append_lies _ (by rfl) _ _ _ (by rfl) 0 91 i0 _ 2 24 Tryz.underlying87 hi hz0 hz1 hz2 (by rfl) (by decide) _ _ _ (by rfl) HO4.out ⟨w3.heap.size, 0, none⟩ 1 1 (encL [(s, v)]) (by rfl) (by rfl) HX4.out H1.out (by omega) (by unfold maxLen; omega) (by omega) (Nat.zero_le _) _ rfl ?_; intro g4 cap4 w4 hown4 hgrow4 hat4 hlt4; have dd4 := (HH.out.below (below_grown_far HBA4.out hgrow4 hlg)).d0; rw [HN2.out] at dd4; have fa4 := (HFA.out _ (below_grown_far HBA4.out hgrow4 hlg)).1; have fb4 := (HFA.out _ (below_grown_far HBA4.out hgrow4 hlg)).2)
            have HE5 := Lib.hid (app_row hown4 HM.out)
            have HB5 := Lib.hid (below_grown_far HBA4.out hgrow4 hlg)
            have hg5 := lo_next hlg HBA4.out.size hat4
            clear hown4 hgrow4 hat4 hlt4 d3
            go_wp2_with fail
            go_roundg (gk - 1)
            case measure => omega
            case rel => exact ⟨k + 1, m + 1, g4, cap4, _, true, by omega, by go_num, rfl, rfl, by omega, hg5, HRS, Lib.hid (by rw [List.length_append, ← HM.out]; rfl), HE5, HB5⟩
          · have hqq : (xs.toList == s.toList) = false := by rw [beq_names]; exact decide_eq_false hs
            have HRS := Lib.hid (HRN.out.trans (show _ = (K ++ [(s, v)] ++ [(xs, xv)], true) by simp [rstep, HQ.out, hs]))
            clear hs HRN
            go_wp2_with fail
            refine HC.out.mono ?_
            rintro e w3 ⟨rfl, hb3⟩
            have HB3 := Lib.hid (below_step HB.out hb3)
            have HE3 := Lib.hid (HE.out.of_block (hb3.block gg HE.out.lt))
            have d3 := (HH.out.below HB3.out).d0
            rw [HN2.out] at d3
            clear hb3 HC d0 f0 f1
            have HO4 := Lib.hid (app_owns HE3.out HM.out (below_alloc w3 (.cells #[.string s, .int .i64 v] 91)))
            have HX4 := Lib.hid (cells_of_box (x := (s, v)) (heap_alloc_new w3 (.cells #[.string s, .int .i64 v] 91)))
            have HBA4 := Lib.hid (below_step HB3.out (below_alloc w3 (.cells #[.string s, .int .i64 v] 91)))
            go_upto_region 13 with (at_builtin; refine wpList_append_lies _ (by rfl) _ _ _ (by rfl) 0 91 i0 _ 2 24 Tryz.underlying87 hi hz0 hz1 hz2 (by rfl) (by decide) _ _ _ (by rfl) HO4.out ⟨w3.heap.size, 0, none⟩ 1 1 (encL [(s, v)]) (by rfl) (by rfl) HX4.out H1.out (by omega) (by unfold maxLen; omega) (by omega) (Nat.zero_le _) _ rfl ?_; intro g4 cap4 w4 hown4 hgrow4 hat4 hlt4; have dd4 := (HH.out.below (below_grown_far HBA4.out hgrow4 hlg)).d0; rw [HN2.out] at dd4; have fa4 := (HFA.out _ (below_grown_far HBA4.out hgrow4 hlg)).1; have fb4 := (HFA.out _ (below_grown_far HBA4.out hgrow4 hlg)).2)
            have HE5 := Lib.hid (app_row hown4 HM.out)
            have HB5 := Lib.hid (below_grown_far HBA4.out hgrow4 hlg)
            have hg5 := lo_next hlg HBA4.out.size hat4
            have HM5 := Lib.hid (show m + 1 = (K ++ [(s, v)]).length by rw [List.length_append, ← HM.out]; rfl)
            clear hown4 hgrow4 hat4 hlt4 d3
            have HO6 := Lib.hid (app_owns HE5.out HM5.out (below_alloc w4 (.cells #[.string xs, .int .i64 xv] 91)))
            have HX6 := Lib.hid (cells_of_box (x := (xs, xv)) (heap_alloc_new w4 (.cells #[.string xs, .int .i64 xv] 91)))
            have HBA6 := Lib.hid (below_step HB5.out (below_alloc w4 (.cells #[.string xs, .int .i64 xv] 91)))
            go_wp2_with (at_builtin; refine wpList_append_lies _ (by rfl) _ _ _ (by rfl) 0 91 i0 _ 2 24 Tryz.underlying87 hi hz0 hz1 hz2 (by rfl) (by decide) _ _ _ (by rfl) HO6.out ⟨w4.heap.size, 0, none⟩ 1 1 (encL [(xs, xv)]) (by rfl) (by rfl) HX6.out HX1.out (by omega) (by unfold maxLen; omega) (by omega) (Nat.zero_le _) _ rfl ?_; intro g6 cap6 w6 hown6 hgrow6 hat6 hlt6; have dd6 := (HH.out.below (below_grown_far HBA6.out hgrow6 hg5)).d0; rw [HN2.out] at dd6; have fa6 := (HFA.out _ (below_grown_far HBA6.out hgrow6 hg5)).1; have fb6 := (HFA.out _ (below_grown_far HBA6.out hgrow6 hg5)).2)
            have HE7 := Lib.hid (app_row hown6 HM5.out)
            have HB7 := Lib.hid (below_grown_far HBA6.out hgrow6 hg5)
            have hg7 := lo_next hg5 HBA6.out.size hat6
            clear hown6 hgrow6 hat6 hlt6
            go_wp2_with fail
            go_roundg (gk - 1)
            case measure => omega
            case rel => exact ⟨k + 1, m + 1 + 1, g6, cap6, _, true, by omega, by go_num, rfl, rfl, by omega, hg7, HRS, Lib.hid (by rw [List.length_append, ← HM5.out]; rfl), HE7, HB7⟩
        · have hs : xs ≠ s := less_ne HQ.out
          have hqq : (xs.toList == s.toList) = false := by rw [beq_names]; exact decide_eq_false hs
          have HRS := Lib.hid (HRN.out.trans (show _ = (K ++ [(xs, xv)], false) by simp [rstep, HQ.out, hs]))
          clear hs HRN
          go_wp2_with fail
          refine HC.out.mono ?_
          rintro e w3 ⟨rfl, hb3⟩
          have HB3 := Lib.hid (below_step HB.out hb3)
          have HE3 := Lib.hid (HE.out.of_block (hb3.block gg HE.out.lt))
          have d3 := (HH.out.below HB3.out).d0
          rw [HN2.out] at d3
          have h0 := (HFA.out _ HB3.out).1
          have h1 := (HFA.out _ HB3.out).2
          clear hb3 HC d0 f0 f1
          have HO4 := Lib.hid (app_owns HE3.out HM.out (below_alloc w3 (.cells #[.string xs, .int .i64 xv] 91)))
          have HX4 := Lib.hid (cells_of_box (x := (xs, xv)) (heap_alloc_new w3 (.cells #[.string xs, .int .i64 xv] 91)))
          have HBA4 := Lib.hid (below_step HB3.out (below_alloc w3 (.cells #[.string xs, .int .i64 xv] 91)))
          go_wp2_with (at_builtin; refine wpList_append_lies _ (by rfl) _ _ _ (by rfl) 0 91 i0 _ 2 24 Tryz.underlying87 hi hz0 hz1 hz2 (by rfl) (by decide) _ _ _ (by rfl) HO4.out ⟨w3.heap.size, 0, none⟩ 1 1 (encL [(xs, xv)]) (by rfl) (by rfl) HX4.out HX1.out (by omega) (by unfold maxLen; omega) (by omega) (Nat.zero_le _) _ rfl ?_; intro g4 cap4 w4 hown4 hgrow4 hat4 hlt4; have dd4 := (HH.out.below (below_grown_far HBA4.out hgrow4 hlg)).d0; rw [HN2.out] at dd4; have fa4 := (HFA.out _ (below_grown_far HBA4.out hgrow4 hlg)).1; have fb4 := (HFA.out _ (below_grown_far HBA4.out hgrow4 hlg)).2)
          have HE5 := Lib.hid (app_row hown4 HM.out)
          have HB5 := Lib.hid (below_grown_far HBA4.out hgrow4 hlg)
          have hg5 := lo_next hlg HBA4.out.size hat4
          clear hown4 hgrow4 hat4 hlt4 d3 h0 h1
          go_wp2_with fail
          go_roundg (gk - 1)
          case measure => omega
          case rel => exact ⟨k + 1, m + 1, g4, cap4, _, false, by omega, by go_num, rfl, rfl, by omega, hg5, HRS, Lib.hid (by rw [List.length_append, ← HM.out]; rfl), HE5, HB5⟩
      · by_cases hs : xs = s
        · have hqq : (xs.toList == s.toList) = true := by rw [beq_names]; exact decide_eq_true hs
          have HRS := Lib.hid (HRN.out.trans (show _ = (K, true) by simp [rstep, hs]))
          clear hs HRN HC
          go_wp2_with fail
          go_roundg (gk - 1)
          case measure => omega
          case rel => exact ⟨k + 1, m, gg, cap, K, true, by omega, by go_num, rfl, rfl, by omega, hlg, HRS, HM, HE, HB⟩
        · have hqq : (xs.toList == s.toList) = false := by rw [beq_names]; exact decide_eq_false hs
          have HRS := Lib.hid (HRN.out.trans (show _ = (K ++ [(xs, xv)], true) by simp [rstep, hs]))
          clear hs HRN HC
          have HO4 := Lib.hid (app_owns HE.out HM.out (below_alloc wr (.cells #[.string xs, .int .i64 xv] 91)))
          have HX4 := Lib.hid (cells_of_box (x := (xs, xv)) (heap_alloc_new wr (.cells #[.string xs, .int .i64 xv] 91)))
          have HBA4 := Lib.hid (below_step HB.out (below_alloc wr (.cells #[.string xs, .int .i64 xv] 91)))
          go_wp2_with (at_builtin; refine wpList_append_lies _ (by rfl) _ _ _ (by rfl) 0 91 i0 _ 2 24 Tryz.underlying87 hi hz0 hz1 hz2 (by rfl) (by decide) _ _ _ (by rfl) HO4.out ⟨wr.heap.size, 0, none⟩ 1 1 (encL [(xs, xv)]) (by rfl) (by rfl) HX4.out HX1.out (by omega) (by unfold maxLen; omega) (by omega) (Nat.zero_le _) _ rfl ?_; intro g4 cap4 w4 hown4 hgrow4 hat4 hlt4; have dd4 := (HH.out.below (below_grown_far HBA4.out hgrow4 hlg)).d0; rw [HN2.out] at dd4; have fa4 := (HFA.out _ (below_grown_far HBA4.out hgrow4 hlg)).1; have fb4 := (HFA.out _ (below_grown_far HBA4.out hgrow4 hlg)).2)
          have HE5 := Lib.hid (app_row hown4 HM.out)
          have HB5 := Lib.hid (below_grown_far HBA4.out hgrow4 hlg)
          have hg5 := lo_next hlg HBA4.out.size hat4
          clear hown4 hgrow4 hat4 hlt4 d0 f0 f1
          go_wp2_with fail
          go_roundg (gk - 1)
          case measure => omega
          case rel => exact ⟨k + 1, m + 1, g4, cap4, _, true, by omega, by go_num, rfl, rfl, by omega, hg5, HRS, Lib.hid (by rw [List.length_append, ← HM.out]; rfl), HE5, HB5⟩
    · have hte : L.take k = L := List.take_of_length_le (by rw [HN2.out]; omega)
      have hkk := HR.out
      rw [hte] at hkk
      have hall := HALL.out K d hkk
      have hjn : ¬ ((k : Int) < (n : Int)) := by omega
      have hm2 : m ≤ 2 * n := by omega
      cases d
      · have hKe : KK = K ++ [(s, v)] := by simpa using hall
        have HKE := Lib.hid hKe
        clear hkn hte hkk hall HR hKe HNX
        have HO4 := Lib.hid (app_owns HE.out HM.out (below_alloc wr (.cells #[.string s, .int .i64 v] 91)))
        have HX4 := Lib.hid (cells_of_box (x := (s, v)) (heap_alloc_new wr (.cells #[.string s, .int .i64 v] 91)))
        have HBA4 := Lib.hid (below_step HB.out (below_alloc wr (.cells #[.string s, .int .i64 v] 91)))
        go_upto_region 18 with (at_builtin; refine wpList_append_lies _ (by rfl) _ _ _ (by rfl) 0 91 i0 _ 2 24 Tryz.underlying87 hi hz0 hz1 hz2 (by rfl) (by decide) _ _ _ (by rfl) HO4.out ⟨wr.heap.size, 0, none⟩ 1 1 (encL [(s, v)]) (by rfl) (by rfl) HX4.out H1.out (by omega) (by unfold maxLen; omega) (by omega) (Nat.zero_le _) _ rfl ?_; intro g4 cap4 w4 hown4 hgrow4 hat4 hlt4; have dd4 := (HH.out.below (below_grown_far HBA4.out hgrow4 hlg)).d0; rw [HN2.out] at dd4)
        have HE5 := Lib.hid (app_row hown4 HM.out)
        have HB5 := Lib.hid (below_grown_far HBA4.out hgrow4 hlg)
        have hg5 := lo_next hlg HBA4.out.size hat4
        rw [← HKE.out] at HE5
        obtain ⟨c0, c1, hst⟩ := HST.out w4 g4 cap4 (m + 1) HB5.out hg5 HE5.out (by rw [HKE.out, List.length_append, ← HM.out]; rfl)
        have HRR := Lib.hid hst
        clear hown4 hgrow4 hat4 hlt4 hst HST d0
        go_wp2_with fail
        go_ret
        exact HRR.out
      · have hKe : KK = K := by simpa using hall
        rw [← hKe] at HE HM
        obtain ⟨c0, c1, hst⟩ := HST.out wr gg cap m HB.out hlg HE.out HM.out
        have HRR := Lib.hid hst
        clear hst HST d0 hte hkk hall HR hKe HNX hkn
        go_wp2_with fail
        go_ret
        exact HRR.out

/-- The document's Set, whatever the name and the number. -/
theorem rset_any (D lo c : Nat) (o : Option Nat) (L : List En) (s : ByteArray) (v : Int) (w : World) (hm : s.size ≤ 9223372036854775807) (hL : ∀ e ∈ L, e.1.size ≤ 9223372036854775807) (h : Du w D lo o c L) (hlo : lo ≤ w.heap.size) (hs : Sorted L) (hN : L.length ≤ 400000) :
    Calls Tryz.prog 85 #[Pq D, .string s, .int .i64 v] w (StepE w D lo o (.int .i64 (serr s v)) (lsetE s v L)) := by
  unfold lsetE serr
  by_cases he : nerr s.data.toList = 0
  · rw [if_neg (by simpa using he)]
    by_cases hd : dotB s = true ∨ v < 1
    · rw [if_pos hd, if_neg (by decide)]
      exact rset_dot D lo c o L s v w hm h he hd
    · rw [if_neg hd, if_pos rfl]
      have hd1 : dotB s = false := by simpa using fun e => hd (.inl e)
      have hv : ¬ v < 1 := fun e => hd (.inr e)
      exact rset_ok D lo c o L s v w hm hL h hlo hs hN he hd1 hv
  · rw [if_pos (by simpa using he), if_neg he]
    exact rset_name D lo c o L s v w hm h he
end Go.Proofs.YtkbdmjcdhkdanaaGreat.dn
end
