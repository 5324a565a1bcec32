/- The document's answer by definition: 'has', 'Name', 'Less': what they hand back. The document's own 'Get' and 'Next'. The document's own 'Del'. -/
import Derived.Test.YtlnlehoekchdeaaGreatZ07
import Derived.RegionTactic
import Derived.BigRegion
import Derived.Test.YtlnlehoekchdeaaGreatZ04
import Derived.Test.YtlnlehoekchdeaaGreatZ14
section
namespace Go.Proofs.YtlnlehoekchdeaaGreat.dn
open Go.RowKit Go.Shelf
set_option linter.unusedVariables false


theorem getD_data (s : ByteArray) (j : Nat) (h : j < s.size) : s[j] = s.data.toList[j]'(by rw [← Lib.size_eq]; exact h) := by rfl

set_option maxRecDepth 100000 in
set_option maxHeartbeats 1000000 in
theorem rhas_any (s : ByteArray) (c : UInt8) (b : Bool) (w : World) (hm : s.size ≤ 9223372036854775807) (hb : decide (c ∈ s.data.toList) = b) : Calls Tryz.prog 73 #[.string s, .int .u8 (c.toNat : Int)] w fun e w' => e = .returned (.bool b) ∧ w = w' := by
  have HB := Lib.hid hb
  clear hb
  go_enter Tryz.func73, Tryz.ntmps73
  go_wp2_with fail
  go_loopg [5] s.size (fun g i wr => ∃ j : Nat, j ≤ s.size ∧ g + j = s.size ∧ i = .int .i64 j ∧ Hid (∀ x ∈ s.data.toList.take j, x ≠ c) ∧ w = wr)
  case atStart => exact ⟨0, by omega, by omega, rfl, (by show ∀ _, _; simp), rfl⟩
  case round =>
    obtain ⟨j, hj, hg, rfl, HN, rfl⟩ := hrel
    by_cases hjl : j < s.size
    · have hjL : j < s.data.toList.length := by rw [← Lib.size_eq]; exact hjl
      by_cases h : s[j] = c
      · have hT : (((s[j]).toNat : Int) == (c.toNat : Int)) = true := by rw [h]; simp
        have hbt : b = true := by
          rw [← HB.out]
          exact decide_eq_true (by rw [← h, getD_data s j hjl]; exact List.getElem_mem _)
        subst hbt
        clear h
        go_wp2_with fail
        try rw [Exit.noGoto_ret]
        go_ret
        exact ⟨rfl, rfl⟩
      · have hT : (((s[j]).toNat : Int) == (c.toNat : Int)) = false := by
          rw [beq_eq_false_iff_ne]
          intro e
          exact h (UInt8.toNat_inj.1 (by omega))
        have HN' : Hid (∀ x ∈ s.data.toList.take (j + 1), x ≠ c) := by
          show ∀ _, _
          rw [List.take_succ_eq_append_getElem hjL]
          intro x hx
          rw [List.mem_append, List.mem_singleton] at hx
          rcases hx with hx | rfl
          · exact HN.out x hx
          · rw [← getD_data s j hjl]; exact h
        clear h
        go_wp2_with fail
        go_roundg (gk - 1)
        case measure => omega
        case rel => exact ⟨j + 1, by omega, by omega, by go_num, HN', rfl⟩
    · have hbt : b = false := by
        rw [← HB.out]
        refine decide_eq_false (fun hc => ?_)
        have := HN.out c (by rw [List.take_of_length_le (by rw [← Lib.size_eq]; omega)]; exact hc)
        exact this rfl
      subst hbt
      have hkl : ¬ ((j : Int) < (s.size : Int)) := by omega
      clear hjl
      go_wp2_with fail
      go_ret
      exact ⟨rfl, rfl⟩

set_option maxRecDepth 100000 in
theorem rhas0 (s : ByteArray) (b : Bool) (w : World) (hm : s.size ≤ 9223372036854775807) (hb : decide ((0 : UInt8) ∈ s.data.toList) = b) : Calls Tryz.prog 73 #[.string s, .int .u8 0] w fun e w' => e = .returned (.bool b) ∧ w = w' := rhas_any s 0 b w hm hb
set_option maxRecDepth 100000 in
theorem rhas47 (s : ByteArray) (b : Bool) (w : World) (hm : s.size ≤ 9223372036854775807) (hb : decide ((47 : UInt8) ∈ s.data.toList) = b) : Calls Tryz.prog 73 #[.string s, .int .u8 47] w fun e w' => e = .returned (.bool b) ∧ w = w' := rhas_any s 47 b w hm hb

set_option maxRecDepth 100000 in
set_option maxHeartbeats 1000000 in
theorem rname_any (s : ByteArray) (w : World) (hm : s.size ≤ 9223372036854775807) : Calls Tryz.prog 86 #[.string s] w (NameE w s.data.toList) := by
  by_cases h0 : s.size = 0
  · have HR := Lib.hid (show nerr s.data.toList = 2 by unfold nerr; rw [if_pos (List.eq_nil_of_length_eq_zero (by rw [← Lib.size_eq]; exact h0))])
    go_enter Tryz.func86, Tryz.ntmps86
    go_wp2_with fail
    go_ret
    exact ⟨by rw [HR.out]; rfl, Below.refl _ _⟩
  · have hne : s.data.toList ≠ [] := fun e => h0 (by rw [Lib.size_eq, e]; rfl)
    by_cases h60 : 60 < s.size
    · have HR := Lib.hid (show nerr s.data.toList = 36 by unfold nerr; rw [if_neg hne, if_pos (by rw [← Lib.size_eq]; exact h60)])
      clear hne
      go_enter Tryz.func86, Tryz.ntmps86
      go_wp2_with fail
      go_ret
      exact ⟨by rw [HR.out]; rfl, Below.refl _ _⟩
    · have HF := Lib.hid (show nerr s.data.toList = if (decide ((0 : UInt8) ∈ s.data.toList) || decide ((47 : UInt8) ∈ s.data.toList)) = true then 22 else 0 by
        unfold nerr; rw [if_neg hne, if_neg (by rw [← Lib.size_eq]; exact h60)]; simp)
      clear hne
      have hA := fun w => rhas0 s _ w hm rfl
      have hB := fun w => rhas47 s _ w hm rfl
      generalize decide ((0 : UInt8) ∈ s.data.toList) = b0 at *
      generalize decide ((47 : UInt8) ∈ s.data.toList) = b47 at *
      unfold NameE
      cases b0
      · cases b47
        · go_enter Tryz.func86, Tryz.ntmps86
          go_wp2_with fail
          refine (hA _).mono ?_
          rintro e w' ⟨rfl, rfl⟩
          go_wp2_with fail
          refine (hB _).mono ?_
          rintro e w' ⟨rfl, rfl⟩
          go_wp2_with fail
          go_ret
          exact ⟨by rw [HF.out]; rfl, Below.refl _ _⟩
        · go_enter Tryz.func86, Tryz.ntmps86
          go_wp2_with fail
          refine (hA _).mono ?_
          rintro e w' ⟨rfl, rfl⟩
          go_wp2_with fail
          refine (hB _).mono ?_
          rintro e w' ⟨rfl, rfl⟩
          go_wp2_with fail
          go_ret
          exact ⟨by rw [HF.out]; rfl, Below.refl _ _⟩
      · go_enter Tryz.func86, Tryz.ntmps86
        go_wp2_with fail
        refine (hA _).mono ?_
        rintro e w' ⟨rfl, rfl⟩
        go_wp2_with fail
        go_ret
        exact ⟨by rw [HF.out]; rfl, Below.refl _ _⟩

theorem bl_pre (p a b : Bs) : Op.bytesLess (p ++ a) (p ++ b) = Op.bytesLess a b := by
  induction p with
  | nil => rfl
  | cons x p ih => simp [Op.bytesLess, ih]
theorem bl_at (a b : Bs) (j : Nat) (h : a.take j = b.take j) : Op.bytesLess a b = Op.bytesLess (a.drop j) (b.drop j) := by
  conv => lhs; rw [← List.take_append_drop j a, ← List.take_append_drop j b, h]
  exact bl_pre _ _ _
theorem bl_head (x y : UInt8) (a b : Bs) (h : x ≠ y) : Op.bytesLess (x :: a) (y :: b) = decide (x.toNat < y.toNat) := by
  have h2 : (x == y) = false := by simpa using h
  simp only [Op.bytesLess, h2, Bool.false_and, Bool.or_false]
  by_cases hl : x < y
  · rw [decide_eq_true hl, decide_eq_true (UInt8.lt_iff_toNat_lt.1 hl)]
  · rw [decide_eq_false hl, decide_eq_false (fun e => hl (UInt8.lt_iff_toNat_lt.2 e))]
theorem bl_nil (a b : Bs) (h : a = [] ∨ b = []) : Op.bytesLess a b = decide (a.length < b.length) := by
  cases a with
  | nil => cases b <;> simp [Op.bytesLess]
  | cons x a =>
    rcases h with h | h
    · exact absurd h (by simp)
    · subst h; simp [Op.bytesLess]

set_option maxRecDepth 100000 in
set_option maxHeartbeats 2000000 in
theorem rless_any (a b : ByteArray) (w : World) (ha : a.size ≤ 9223372036854775807) (hb : b.size ≤ 9223372036854775807) : Calls Tryz.prog 87 #[.string a, .string b] w fun e w' => e = .returned (.bool (lessB a b)) ∧ Below w.heap.size w w' := by
  have HB : ∀ r, Op.bytesLess a.data.toList b.data.toList = r → Hid (lessB a b = r) := fun r h => Lib.hid (by rw [← h]; simp [lessB, Lib.toList_data])
  go_enter Tryz.func87, Tryz.ntmps87
  go_wp2_with fail
  go_loopg [5] a.size (fun g i wr => ∃ j : Nat, j ≤ a.size ∧ j ≤ b.size ∧ g + j = a.size ∧ i = .int .i64 j ∧ Hid (a.data.toList.take j = b.data.toList.take j) ∧ Below w.heap.size w wr)
  case atStart => exact ⟨0, by omega, by omega, by omega, rfl, Lib.hid (by simp), Below.refl _ _⟩
  case round =>
    obtain ⟨j, hja, hjb, hg, rfl, HT, hbr⟩ := hrel
    by_cases h1 : j < a.size
    · by_cases h2 : j < b.size
      · have hA : j < a.data.toList.length := by rw [← Lib.size_eq]; exact h1
        have hB : j < b.data.toList.length := by rw [← Lib.size_eq]; exact h2
        have dA : a.data.toList.drop j = a[j] :: a.data.toList.drop (j + 1) := by rw [List.drop_eq_getElem_cons hA, getD_data a j h1]
        have dB : b.data.toList.drop j = b[j] :: b.data.toList.drop (j + 1) := by rw [List.drop_eq_getElem_cons hB, getD_data b j h2]
        by_cases h : a[j] = b[j]
        · have hT : (((a[j]).toNat : Int) != ((b[j]).toNat : Int)) = false := by rw [h]; simp
          have HT' := Lib.hid (show a.data.toList.take (j + 1) = b.data.toList.take (j + 1) by
            rw [List.take_succ_eq_append_getElem hA, List.take_succ_eq_append_getElem hB, HT.out, ← getD_data a j h1, ← getD_data b j h2, h])
          clear h dA dB HB
          go_wp2_with fail
          go_region
          all_goals
            go_wp2_with fail
            go_roundg (gk - 1)
            case measure => omega
            case rel => exact ⟨j + 1, by omega, by omega, by omega, by go_num, HT', hbr.drew⟩
        · have hT : (((a[j]).toNat : Int) != ((b[j]).toNat : Int)) = true := by
            rw [bne_iff_ne]; intro e; exact h (UInt8.toNat_inj.1 (by omega))
          have HR := HB (decide ((a[j]).toNat < (b[j]).toNat)) (by rw [bl_at _ _ j HT.out, dA, dB, bl_head _ _ _ _ h])
          clear h dA dB HB
          go_wp2_with fail
          go_region
          all_goals
            go_wp2_with fail
            go_region
            all_goals
              go_wp2_with fail
              try rw [Exit.noGoto_ret]
              go_ret
              exact ⟨by rw [HR.out]; rfl, hbr.drew.drew⟩
      · have HR := HB (decide (a.size < b.size)) (by
          rw [bl_at _ _ j HT.out, bl_nil _ _ (.inr (List.drop_eq_nil_of_le (by rw [← Lib.size_eq]; omega))), List.length_drop, List.length_drop, ← Lib.size_eq, ← Lib.size_eq]
          rw [Bool.eq_iff_iff]; simp; omega)
        have hjn : ¬ ((j : Int) < (b.size : Int)) := by omega
        clear HB h2
        go_wp2_with fail
        go_ret
        exact ⟨by rw [HR.out]; rfl, hbr⟩
    · have HR := HB (decide (a.size < b.size)) (by
        rw [bl_at _ _ j HT.out, bl_nil _ _ (.inl (List.drop_eq_nil_of_le (by rw [← Lib.size_eq]; omega))), List.length_drop, List.length_drop, ← Lib.size_eq, ← Lib.size_eq]
        rw [Bool.eq_iff_iff]; simp; omega)
      have hjn : ¬ ((j : Int) < (a.size : Int)) := by omega
      clear HB h1
      go_wp2_with fail
      go_ret
      exact ⟨by rw [HR.out]; rfl, hbr⟩
end Go.Proofs.YtlnlehoekchdeaaGreat.dn
end
section
namespace Go.Proofs.YtlnlehoekchdeaaGreat.dn
open Go.RowKit Go.Shelf
set_option linter.unusedVariables false


theorem find_at {L : List En} {p : En → Bool} {k : Nat} {x : En} (hx : L[k]? = some x) (hp : p x = true) (hb : ∀ e ∈ L.take k, p e = false) : L.find? p = some x := by
  have hk := (List.getElem?_eq_some_iff.1 hx).1
  have hxx : L[k] = x := (List.getElem?_eq_some_iff.1 hx).2
  have e : L = L.take k ++ x :: L.drop (k + 1) := by rw [← hxx, List.getElem_cons_drop, List.take_append_drop]
  have h1 : (L.take k).find? p = none := List.find?_eq_none.2 fun y hy => by rw [hb y hy]; decide
  rw [e, List.find?_append, h1, List.find?_cons, hp]
  rfl
theorem before_next {L : List En} {p : En → Bool} {k : Nat} {x : En} (hx : L[k]? = some x) (hp : p x = false) (hb : ∀ e ∈ L.take k, p e = false) : ∀ e ∈ L.take (k + 1), p e = false := by
  rw [List.take_add_one, hx]
  intro e he
  rcases List.mem_append.1 he with he | he
  · exact hb e he
  · simp at he; rw [he]; exact hp

set_option maxRecDepth 100000 in
set_option maxHeartbeats 2000000 in
theorem rget_any (D lo c : Nat) (o : Option Nat) (L : List En) (s : ByteArray) (w : World) (hN : L.length ≤ 1000000) (h : Du w D lo o c L) :
    Calls Tryz.prog 72 #[Pq D, .string s] w (fun e w' => e = .returned (getV s L) ∧ w' = w) := by
  have d0 := h.d0
  have HH := Lib.hid h
  obtain ⟨r, hr⟩ : ∃ r, getV s L = r := ⟨_, rfl⟩
  rw [hr]
  have HYES := Lib.hid (fun (k : Nat) (x : En) (hx : L[k]? = some x) (hs : x.1 = s) (hb : ∀ e ∈ L.take k, decide (e.1 = s) = false) => (by
    rw [← hr]; unfold getV lget; rw [find_at hx (decide_eq_true hs) hb]; rfl : r = .tuple #[.int .i64 x.2, .int .i64 0]))
  have HNO := Lib.hid (fun (hb : ∀ e ∈ L, decide (e.1 = s) = false) => (by
    rw [← hr]; unfold getV lget; rw [List.find?_eq_none.2 fun y hy => by rw [hb y hy]; decide]; rfl : r = .tuple #[.int .i64 0, .int .i64 2]))
  generalize hn : L.length = n at *
  have HN2 := Lib.hid hn
  clear hn hr h
  go_enter Tryz.func72, Tryz.ntmps72
  go_wp2_with fail
  go_loopg [6] n (fun g s6 wr => ∃ k : Nat, g + k = n ∧ s6 = .int .i64 k ∧ Hid (∀ e ∈ L.take k, decide (e.1 = s) = false) ∧ wr = w)
  case atStart => exact ⟨0, by omega, rfl, Lib.hid (by simp), rfl⟩
  case round =>
    obtain ⟨k, hgk, rfl, HB, rfl⟩ := hrel
    by_cases hkn : k < n
    · have hx : L[k]? = some (L[k]'(by rw [HN2.out]; exact hkn)) := List.getElem?_eq_getElem _
      obtain ⟨G, rfl, f0, f1⟩ := HH.out.at_ hx
      generalize L[k]'(by rw [HN2.out]; exact hkn) = x at *
      by_cases hs : x.1 = s
      · have HR := Lib.hid (HYES.out k x hx hs HB.out)
        have hq : (x.1.toList == s.toList) = true := by rw [beq_names]; exact decide_eq_true hs
        obtain ⟨xs, xv⟩ := x
        dsimp only at f0 f1 hq
        clear hx hs HYES HNO
        go_wp2_with fail
        try rw [Exit.noGoto_ret]
        go_ret2
        exact ⟨by rw [HR.out]; first | done | rfl, rfl⟩
      · have HB2 := Lib.hid (before_next hx (decide_eq_false hs) HB.out)
        have hq : (x.1.toList == s.toList) = false := by rw [beq_names]; exact decide_eq_false hs
        obtain ⟨xs, xv⟩ := x
        dsimp only at f0 f1 hq
        clear hx hs HYES HNO
        go_wp2_with fail
        go_roundg (gk - 1)
        case measure => omega
        case rel => exact ⟨k + 1, by omega, by go_num, HB2, rfl⟩
    · have HR := Lib.hid (HNO.out (by have := HB.out; rwa [List.take_of_length_le (by rw [HN2.out]; omega)] at this))
      have hjn : ¬ ((k : Int) < (n : Int)) := by omega
      clear HYES HNO hkn
      go_wp2_with fail
      go_ret2
      exact ⟨by rw [HR.out]; first | done | rfl, rfl⟩

end Go.Proofs.YtlnlehoekchdeaaGreat.dn
end
section
namespace Go.Proofs.YtlnlehoekchdeaaGreat.dn
open Go.RowKit Go.Shelf
set_option linter.unusedVariables false


theorem below_grown_far {w w1 w2 : World} {B : Nat} (h : Below w.heap.size w w1) (hg : w1.grownBy w2 (some B)) (hB : w.heap.size ≤ B) : Below w.heap.size w w2 :=
  h.trans ⟨hg.os, hg.tape, hg.output, hg.size, fun k hk => hg.block k (by have := h.size; omega) (fun e => by injection e with e; omega)⟩

theorem lo_next {lo gg g2 k cap M : Nat} (hlo : lo ≤ gg) (hM : lo ≤ M) (hat : (Value.slice (some ⟨gg, 0, none⟩) k cap).ownBlock = some g2 ∨ g2 = M) : lo ≤ g2 := by
  rcases hat with e | e
  · have h : gg = g2 := by simpa [Value.ownBlock] using e
    rw [← h]; exact hlo
  · rw [e]; exact hM
theorem app_owns {w w' : World} {gg cap k : Nat} {K : List En} (h : ERow w gg cap K) (hk : k = K.length) (hb : Below w.heap.size w w') : w'.ownsRow 0 123 2 (.slice (some ⟨gg, 0, none⟩) k cap) k (encL K) := by
  subst hk
  exact (h.of_block (hb.block gg h.lt)).owns (Nat.zero_le _)
theorem app_row {w : World} {gg cap k : Nat} {K : List En} {x : En} (h : w.ownsRow 0 123 2 (.slice (some ⟨gg, 0, none⟩) (k + 1) cap) (k + 1) (encL K ++ encL [x])) (hk : k = K.length) : ERow w gg cap (K ++ [x]) := by
  rw [← encL_append] at h
  exact (ERow.of_owns h (by simp [hk])).1
theorem row_new (w : World) : ERow (w.alloc (.cells #[] 123)) w.heap.size 0 [] := ⟨Nat.le_refl _, by unfold maxLen; omega, [], heap_alloc_new w _, rfl, rfl⟩
/-- A new row laid into the directory's box. -/
theorem Du.laid {w w4 : World} {D lo c gg cap n : Nat} {o : Option Nat} {L K : List En} {vv : Value} (h : Du w D lo o c L) (hlo : lo ≤ w.heap.size) (hb : Below w.heap.size w w4) (hg : w.heap.size ≤ gg) (hr : ERow w4 gg cap K) (hK : n = K.length) :
    w4.cell? ⟨D, 0, none⟩ = some (.slice (Ao o) L.length c) ∧ w4.frozen? ⟨D, 0, none⟩ = false ∧ StepE w D lo o vv K (.returned vv) (w4.setCell ⟨D, 0, none⟩ (.slice (some ⟨gg, 0, none⟩) n cap)) := by
  subst hK
  have hD := h.lt
  have h4 := h.below hb
  have hDG : D ≠ gg := by omega
  refine ⟨h4.d0, h4.f0, rfl, some gg, cap, ⟨?_, by simpa using h4.f0, Nat.le_trans hlo hg, hDG, hr.of_block (Below.heap_setCell _ _ _ _ (fun e => hDG (by simpa using e.symm)))⟩, fun G e => by injection e with e; subst e; exact .inr hg, (Fr.below hb).trans (Fr.setQ w4 D o _) (fun k e => .inl e)⟩
  rw [World.cell?_setCell_same _ _ _ h4.d0]; rfl
theorem ldel_take {L : List En} {s : ByteArray} {k : Nat} {x : En} (hx : L[k]? = some x) : ldel s (L.take (k + 1)) = ldel s (L.take k) ++ if x.1 = s then [] else [x] := by
  unfold ldel
  rw [List.take_add_one, hx, List.filter_append]
  by_cases h : x.1 = s <;> simp [h]

set_option maxRecDepth 100000 in
set_option maxHeartbeats 4000000 in
theorem rdel_any (D lo c : Nat) (o : Option Nat) (L : List En) (s : ByteArray) (w : World) (hlo : lo ≤ w.heap.size) (hN : L.length ≤ 900000) (h : Du w D lo o c L) :
    Calls Tryz.prog 60 #[Pq D, .string s] w (StepE w D lo o (getV s L) (ldel s L)) := by
  obtain ⟨i0, hi, hz0, hz1, hz2⟩ := info_parts info37
  have HG := Lib.hid (rget_any D lo c o L s w (by omega) h)
  have hD := h.lt
  have d00 := h.d0
  have HH := Lib.hid h
  obtain ⟨v1, v2, hv⟩ : ∃ v1 v2, getV s L = .tuple #[.int .i64 v1, .int .i64 v2] := by unfold getV; cases lget s L <;> exact ⟨_, _, rfl⟩
  rw [hv] at HG ⊢
  have HST := Lib.hid (fun (w4 : World) (gg cap m : Nat) hb hg hr (hm : m = (ldel s L).length) => Du.laid (w4 := w4) (gg := gg) (cap := cap) (K := ldel s L) (vv := .tuple #[.int .i64 v1, .int .i64 v2]) h hlo hb hg hr hm)
  have hE0 := Lib.hid (row_new w)
  have HB0 := Lib.hid (below_alloc w (.cells #[] 123))
  generalize hn : L.length = n at *
  have HN2 := Lib.hid hn
  have HLO := Lib.hid hlo
  clear hn h hv hlo
  go_enter Tryz.func60, Tryz.ntmps60
  go_wp2_with fail
  refine HG.out.mono ?_
  rintro e w2 ⟨rfl, hw2⟩
  subst hw2
  clear HG
  go_wp2_with fail
  go_loopg [8, 9] n (fun g s8 s9 wr => ∃ (k m gg cap : Nat), g + k = n ∧ s9 = .int .i64 k ∧ s8 = .slice (some ⟨gg, 0, none⟩) m cap ∧ m ≤ k ∧ w2.heap.size ≤ gg ∧ Hid (m = (ldel s (L.take k)).length) ∧ Hid (ERow wr gg cap (ldel s (L.take k))) ∧ Hid (Below w2.heap.size w2 wr))
  case atStart => exact ⟨0, 0, w2.heap.size, 0, by omega, rfl, rfl, Nat.le_refl _, Nat.le_refl _, Lib.hid rfl, hE0, HB0⟩
  case round =>
    clear hE0 HB0 d00
    obtain ⟨k, m, gg, cap, hgk, rfl, rfl, hmk, hlg, HM, HE, HB⟩ := hrel
    have HDr := Lib.hid (HH.out.below HB.out)
    have d0 := HDr.out.d0
    rw [HN2.out] at d0
    by_cases hkn : k < n
    · have hx : L[k]? = some (L[k]'(by rw [HN2.out]; exact hkn)) := List.getElem?_eq_getElem _
      obtain ⟨G, rfl, f0, f1⟩ := HDr.out.at_ hx
      generalize L[k]'(by rw [HN2.out]; exact hkn) = x at *
      have HT := Lib.hid (ldel_take (s := s) hx)
      by_cases hs : x.1 = s
      · have HT2 := Lib.hid (show ldel s (L.take (k + 1)) = ldel s (L.take k) by rw [HT.out, if_pos hs, List.append_nil])
        have hq : (x.1.toList == s.toList) = true := by rw [beq_names]; exact decide_eq_true hs
        obtain ⟨xs, xv⟩ := x
        dsimp only at f0 f1 hq
        clear hx hs HT HST
        go_wp2_with fail
        go_roundg (gk - 1)
        case measure => omega
        case rel => exact ⟨k + 1, m, gg, cap, by omega, by go_num, rfl, by omega, hlg, Lib.hid (by rw [HT2.out]; exact HM.out), Lib.hid (by rw [HT2.out]; exact HE.out), HB⟩
      · have HT2 := Lib.hid (show ldel s (L.take (k + 1)) = ldel s (L.take k) ++ [x] by rw [HT.out, if_neg hs])
        have hq : (x.1.toList == s.toList) = false := by rw [beq_names]; exact decide_eq_false hs
        obtain ⟨xs, xv⟩ := x
        dsimp only at f0 f1 hq
        have HO := Lib.hid (app_owns HE.out HM.out (below_alloc wr (.cells #[.string xs, .int .i64 xv] 123)))
        have HX := Lib.hid (cells_of_box (x := (xs, xv)) (heap_alloc_new wr (.cells #[.string xs, .int .i64 xv] 123)))
        have H1 := Lib.hid (encL_one [(xs, xv)])
        have HBA := Lib.hid (below_step HB.out (below_alloc wr (.cells #[.string xs, .int .i64 xv] 123)))
        clear hx hs HT HST
        go_wp2_with (at_builtin; refine wpList_append_lies _ (by rfl) _ _ _ (by rfl) 0 123 i0 _ 2 24 Tryz.underlying97 hi hz0 hz1 hz2 (by rfl) (by decide) _ _ _ (by rfl) HO.out ⟨wr.heap.size, 0, none⟩ 1 1 (encL [(xs, xv)]) (by rfl) (by rfl) HX.out H1.out (by omega) (by unfold maxLen; omega) (by omega) (Nat.zero_le _) _ rfl ?_; intro g2 cap2 w10 hown1 hgrow hat hlt3)
        have HE2 := Lib.hid (app_row hown1 HM.out)
        have HB2 := Lib.hid (below_grown_far HBA.out hgrow hlg)
        have hg2 := lo_next hlg HBA.out.size hat
        clear hown1 hgrow hat hlt3
        go_wp2_with fail
        go_roundg (gk - 1)
        case measure => omega
        case rel => exact ⟨k + 1, m + 1, g2, cap2, by omega, by go_num, rfl, by omega, hg2, Lib.hid (by rw [HT2.out, List.length_append, HM.out]; rfl), Lib.hid (by rw [HT2.out]; exact HE2.out), HB2⟩
    · have hte : L.take k = L := List.take_of_length_le (by rw [HN2.out]; omega)
      rw [hte] at HM HE
      obtain ⟨c0, c1, hst⟩ := HST.out wr gg cap m HB.out hlg HE.out HM.out
      have HR := Lib.hid hst
      have hjn : ¬ ((k : Int) < (n : Int)) := by omega
      clear hkn HST hst hte HM HE
      go_wp2_with fail
      go_ret2
      exact HR.out
end Go.Proofs.YtlnlehoekchdeaaGreat.dn
end
