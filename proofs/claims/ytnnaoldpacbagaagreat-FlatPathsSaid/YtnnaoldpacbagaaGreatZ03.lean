/- 'IndexRune' in a text of a byte 0 and a slash, at a rune that is no ASCII: not there. 'Name': what it hands back of any text. -/
import Derived.Test.YtnnaoldpacbagaaGreatZ01
import Derived.Test.YtnnaoldpacbagaaGreatZ00
import Derived.Laws.Runes
import Derived.Laws.RangeAny
import Derived.Lib.OthersKept
section
namespace Go.Proofs.YtnnaoldpacbagaaGreat.dn
open Go.RowKit


theorem encode_form (r : Int) (hv : Utf8.valid r = true) (h128 : 128 ≤ r) :
    (∃ a b : UInt8, Utf8.encode r = ⟨#[a, b]⟩ ∧ 128 ≤ b.toNat) ∨ (∃ a b c : UInt8, Utf8.encode r = ⟨#[a, b, c]⟩) ∨ ∃ a b c d : UInt8, Utf8.encode r = ⟨#[a, b, c, d]⟩ := by
  have hc : ¬ r.toNat < 128 := by omega
  unfold Utf8.encode
  simp only [hv, if_true, hc, if_false]
  split
  · exact .inl ⟨_, _, rfl, by simp; omega⟩
  · split
    · exact .inr (.inl ⟨_, _, _, rfl⟩)
    · exact .inr (.inr ⟨_, _, _, _, rfl⟩)

set_option maxRecDepth 100000 in
theorem none_ext (c : Int) (w : World) : Calls Tryz.prog 202 #[.string ((⟨#[0, 47]⟩ : ByteArray).extract 2 2), .int .u8 c] w fun e w' => e = .returned (.int .i64 (-1)) ∧ w' = w :=
  (Tryz.strings_IndexByte _ c w).mono fun e w' ⟨he, hw⟩ => ⟨by rw [he]; rfl, hw⟩
set_option maxRecDepth 100000 in
theorem none_nil (c : Int) (w : World) : Calls Tryz.prog 202 #[.string ⟨#[]⟩, .int .u8 c] w fun e w' => e = .returned (.int .i64 (-1)) ∧ w' = w :=
  (Tryz.strings_IndexByte ⟨#[]⟩ c w).mono fun e w' ⟨he, hw⟩ => ⟨by rw [he]; rfl, hw⟩
def NotThere (w : World) (e : Ending) (w' : World) : Prop := e = .returned (.int .i64 (-1)) ∧ Below w.heap.size w w'

theorem valid_lib (r : Int) : Lib.validRune r = Utf8.valid r := (validRune_eq r).symm

theorem quiet_add_same' {P : Program} {f : FuncId} {args : Array Value} {w : World} {a n : Nat} {v : Value}
    (h : Calls P f args (w.drewN (a + n)) fun e w' => e = .returned v ∧ w' = w.drewN (a + n)) : Calls P f args (w.drewN (a + n)) fun e w'' => e = .returned v ∧ ∃ m, w'' = w.drewN (a + m) :=
  h.mono fun _ _ ⟨he, hm⟩ => ⟨he, n, hm⟩
set_option maxRecDepth 100000 in
theorem valid_any (r : Int) (b : Bool) (w : World) (hv : Lib.validRune r = b) : Calls Tryz.prog 203 #[.int .i32 r] w fun e w' => e = .returned (.bool b) ∧ w = w' :=
  (Tryz.utf8_ValidRune r w).mono fun e w' ⟨he, hw⟩ => ⟨by rw [he, hv], hw.symm⟩

set_option maxHeartbeats 2000000 in
set_option maxRecDepth 100000 in
theorem rune_bad (r : Int) (w : World) (h128 : 128 ≤ r) (hv : Lib.validRune r = false) (hr : ¬ r = 65533) : Calls Tryz.prog 192 #[.string ⟨#[0, 47]⟩, .int .i32 r] w (NotThere w) := by
  have hrB : (r == 65533) = false := beq_eq_false_iff_ne.2 hr
  have HV := Lib.hid (fun w => valid_any r false w hv)
  clear hv hr
  go_enter Tryz.func192, Tryz.ntmps192
  go_wp2_with (go_at_call 203; refine (HV.out _).mono ?_; rintro e w' ⟨rfl, rfl⟩)
  go_ret
  exact ⟨rfl, Below.refl _ _⟩

set_option maxHeartbeats 2000000 in
set_option maxRecDepth 100000 in
theorem rune_good (r : Int) (w : World) (h128 : 128 ≤ r) (hv : Lib.validRune r = true) (hr : ¬ r = 65533) : Calls Tryz.prog 192 #[.string ⟨#[0, 47]⟩, .int .i32 r] w (NotThere w) := by
  have hrB : (r == 65533) = false := beq_eq_false_iff_ne.2 hr
  have HV := Lib.hid (fun w => valid_any r true w hv)
  have HF := Lib.hid (encode_form r (by rw [← valid_lib]; exact hv) h128)
  clear hv hr
  rcases HF.out with ⟨a, b, he, hb⟩ | ⟨a, b, c, he⟩ | ⟨a, b, c, d, he⟩
  · have hbI : (128 : Int) ≤ (b.toNat : Int) := by omega
    have hne : ((47 : Int) != (b.toNat : Int)) = true := by rw [bne_iff_ne]; omega
    have hne2 : ((((⟨#[0, 47]⟩ : ByteArray)[1]'(by show 1 < 2; decide)).toNat : Int) != (((⟨#[a, b]⟩ : ByteArray)[1]'(by show 1 < 2; decide)).toNat : Int)) = true := hne
    clear HF hb
    go_enter Tryz.func192, Tryz.ntmps192
    go_wp2_with (go_at_call 203; refine (HV.out _).mono ?_; rintro e w' ⟨rfl, rfl⟩)
    go_step3
    go_wp2_with fail
    refine wp_loop_rounds 1 ?_
    rw [rounds_succ]
    go_wp2_with fail
    go_step3
    go_wp2_with fail
    go_quiet (fail)
    go_wp2_with fail
    have hw2 : IntKind.i64.wrap 2 = 2 := by decide
    go_quiet ((go_at_call 202; first | exact quiet_add_same' (none_nil _ _) | exact quiet_add_same' (none_ext _ _)))
    go_wp2_with fail
    try rw [Exit.noGoto_ret]
    go_ret
    exact ⟨rfl, below_drewN (Below.refl _ _) _⟩
  · clear HF
    go_enter Tryz.func192, Tryz.ntmps192
    go_wp2_with (go_at_call 203; refine (HV.out _).mono ?_; rintro e w' ⟨rfl, rfl⟩)
    go_step3
    go_wp2_with fail
    refine wp_loop_rounds 1 ?_
    rw [rounds_succ]
    go_wp2_with fail
    try rw [Exit.noGoto_ret]
    go_ret
    exact ⟨rfl, Below.refl _ _⟩
  · clear HF
    go_enter Tryz.func192, Tryz.ntmps192
    go_wp2_with (go_at_call 203; refine (HV.out _).mono ?_; rintro e w' ⟨rfl, rfl⟩)
    go_step3
    go_wp2_with fail
    refine wp_loop_rounds 1 ?_
    rw [rounds_succ]
    go_wp2_with fail
    try rw [Exit.noGoto_ret]
    go_ret
    exact ⟨rfl, Below.refl _ _⟩
set_option maxHeartbeats 2000000 in
set_option maxRecDepth 100000 in
theorem rune_err (w : World) : Calls Tryz.prog 192 #[.string ⟨#[0, 47]⟩, .int .i32 65533] w (NotThere w) := by
  have n0 := fun ty => run_next_ascii (P := Tryz.prog) w ⟨#[0, 47]⟩ 0 ty (by show 0 < 2; decide) (by show (0 : UInt8).toNat < 128; decide)
  have n1 := fun ty => run_next_ascii (P := Tryz.prog) w ⟨#[0, 47]⟩ 1 ty (by show 1 < 2; decide) (by show (47 : UInt8).toNat < 128; decide)
  have n2 := fun ty => run_next_end (P := Tryz.prog) w ⟨#[0, 47]⟩ 2 ty (by show ¬ 2 < 2; decide)
  have m0 : (((⟨#[0, 47]⟩ : ByteArray)[0]'(by show 0 < 2; decide)).toNat : Int) = 0 := rfl
  have m1 : (((⟨#[0, 47]⟩ : ByteArray)[1]'(by show 1 < 2; decide)).toNat : Int) = 47 := rfl
  rw [m0] at n0
  rw [m1] at n1
  clear m0 m1
  go_enter Tryz.func192, Tryz.ntmps192
  go_wp2_with fail
  refine wp_loop_rounds 3 ?_
  rw [rounds_succ]
  go_wp2_with fail
  rw [rounds_succ]
  go_wp2_with fail
  rw [rounds_succ]
  go_wp2_with fail
  try rw [Exit.noGoto_ret]
  go_ret
  exact ⟨rfl, (Below.refl _ _).alloc (Nat.le_refl _) _⟩

/-- At any rune that is no ASCII. -/
theorem rune_high (r : Int) (w : World) (h128 : 128 ≤ r) : Calls Tryz.prog 192 #[.string ⟨#[0, 47]⟩, .int .i32 r] w (NotThere w) := by
  by_cases hr : r = 65533
  · subst hr
    exact rune_err w
  · cases hv : Lib.validRune r
    · exact rune_bad r w h128 hv hr
    · exact rune_good r w h128 hv hr

end Go.Proofs.YtnnaoldpacbagaaGreat.dn
end
section
namespace Go.Proofs.YtnnaoldpacbagaaGreat.dn
open Go.RowKit


theorem get_of (s : ByteArray) (j : Nat) (b : UInt8) (h : s.data.toList[j]? = some b) : ∃ hj : j < s.size, s.get! j = b ∧ s[j]'hj = b := by
  obtain ⟨hj, hb⟩ := List.getElem?_eq_some_iff.1 h
  have hj' : j < s.size := by rw [Lib.size_eq]; exact hj
  refine ⟨hj', ?_, hb⟩
  have := get_at s j hj'
  rw [Nat.add_zero] at this
  rw [this]
  exact hb

/-- What the decoder goes over from a high byte on: high bytes alone, within the text. -/
theorem decode_span (s : ByteArray) (pos : Nat) (h : pos < s.size) (ha : 128 ≤ (s[pos]'h).toNat) : ∀ k, k < (Utf8.decode s pos).2 → pos + k < s.size ∧ 128 ≤ (s.get! (pos + k)).toNat := by
  have e0 := get_at s pos h
  have h0 : pos + 0 < s.size ∧ 128 ≤ (s.get! (pos + 0)).toNat := ⟨by omega, by rw [e0]; exact ha⟩
  have hn : ¬ (s[pos]'h).toNat < 128 := by omega
  intro k
  simp only [Utf8.decode, e0, hn, if_false]
  have hk0 : k < 1 → pos + k < s.size ∧ 128 ≤ (s.get! (pos + k)).toNat := fun hk => by
    have : k = 0 := by omega
    subst this
    exact h0
  have hc : ∀ i : Nat, (decide (pos + i < s.size) && (s.get! (pos + i)).toNat / 64 == 2) = true → pos + i < s.size ∧ 128 ≤ (s.get! (pos + i)).toNat := fun i hi => by
    simp only [Bool.and_eq_true, decide_eq_true_eq, beq_iff_eq] at hi
    exact ⟨hi.1, by omega⟩
  split
  · rename_i h2
    simp only [Bool.and_eq_true] at h2
    have c1 := hc 1 (by simp only [Bool.and_eq_true]; exact h2.2)
    split
    · intro hk
      rcases (show k = 0 ∨ k = 1 by simp at hk; omega) with rfl | rfl
      · exact h0
      · exact c1
    · exact fun hk => hk0 hk
  · split
    · rename_i h2
      simp only [Bool.and_eq_true] at h2
      have c1 := hc 1 (by simp only [Bool.and_eq_true]; exact h2.1.2)
      have c2 := hc 2 (by simp only [Bool.and_eq_true]; exact h2.2)
      split
      · intro hk
        rcases (show k = 0 ∨ k = 1 ∨ k = 2 by simp at hk; omega) with rfl | rfl | rfl
        · exact h0
        · exact c1
        · exact c2
      · exact fun hk => hk0 hk
    · split
      · rename_i h2
        simp only [Bool.and_eq_true] at h2
        have c1 := hc 1 (by simp only [Bool.and_eq_true]; exact h2.1.1.2)
        have c2 := hc 2 (by simp only [Bool.and_eq_true]; exact h2.1.2)
        have c3 := hc 3 (by simp only [Bool.and_eq_true]; exact h2.2)
        split
        · intro hk
          rcases (show k = 0 ∨ k = 1 ∨ k = 2 ∨ k = 3 by simp at hk; omega) with rfl | rfl | rfl | rfl
          · exact h0
          · exact c1
          · exact c2
          · exact c3
        · exact fun hk => hk0 hk
      · exact fun hk => hk0 hk

theorem below_iterAt {B : Nat} {a w : World} (h : Below B a w) {k : Nat} (hk : B ≤ k) (s : ByteArray) (p : Nat) : Below B a (w.iterAt k s p) :=
  h.trans ⟨rfl, rfl, rfl, by simp [World.iterAt], fun i hi => by simp only [World.iterAt]; rw [Array.getElem?_setIfInBounds_ne (by omega)]⟩

theorem noAny_span (s : ByteArray) (pos : Nat) (h : pos < s.size) (ha : 128 ≤ (s[pos]'h).toNat) (hno : Lib.NoAny s.data.toList [0, 47] pos) :
    ∀ k, k ≤ (Utf8.decode s pos).2 → pos + k ≤ s.size ∧ Lib.NoAny s.data.toList [0, 47] (pos + k) := by
  intro k
  induction k with
  | zero => exact fun _ => ⟨by omega, hno⟩
  | succ k ih =>
    intro hk
    obtain ⟨_, h1⟩ := ih (by omega)
    obtain ⟨h2, h3⟩ := decode_span s pos h ha k (by omega)
    have e := get_at s (pos + k) h2
    rw [Nat.add_zero] at e
    rw [e] at h3
    refine ⟨by omega, h1.succ (x := s[pos + k]'h2) (Lib.data_getElem? s (pos + k) h2) ?_⟩
    rw [Bool.eq_false_iff]
    intro hc
    simp at hc
    rcases hc with hc | hc <;> rw [hc] at h3 <;> exact absurd h3 (by decide)

def AnyE (w : World) (v : Int) (e : Ending) (w' : World) : Prop := e = .returned (.int .i64 v) ∧ Below w.heap.size w w'

set_option maxHeartbeats 2000000 in
set_option maxRecDepth 100000 in
theorem any_short (s : ByteArray) (w : World) (h8 : s.size ≤ 8) : Calls Tryz.prog 187 #[.string s, .string ⟨#[0, 47]⟩] w (AnyE w (Lib.indexAny s.data.toList [0, 47])) := by
  have h8z : decide ((8 : Int) < (s.size : Int)) = false := decide_eq_false (by omega)
  go_enter Tryz.func187, Tryz.ntmps187
  go_wp2_with (go_at_call 193; refine (Tryz.strings_shouldUseASCIISet _ _).mono ?_; rintro e w' ⟨rfl, hw⟩; rw [hw, h8z])
  go_loopg [9, 10] s.size (fun g _ _ wx => ∃ i : Nat, i ≤ s.size ∧ g + i = s.size ∧ wx.heap[w.heap.size]? = some (.stringIter s i) ∧ Below w.heap.size w wx ∧ Hid (Lib.NoAny s.data.toList [0, 47] i))
  case atStart => exact ⟨0, by omega, by omega, World.iter_heap w s 0, (Below.refl _ _).alloc (Nat.le_refl _) _, Lib.NoAny.zero _ _⟩
  case round =>
    obtain ⟨i, hi, hg, hk, hb, HN⟩ := hrel
    have hklt : w.heap.size < wr.heap.size := (Array.getElem?_eq_some_iff.1 hk).1
    by_cases hlt : i < s.size
    · have hnx := fun ty => Lib.run_next_any_at (P := Tryz.prog) wr w.heap.size s i ty hk hlt
      have HI := Lib.hid (fun p => Lib.iterAt_heap wr w.heap.size s i p hk)
      have HB := Lib.hid (fun p => below_iterAt hb (Nat.le_refl _) s p)
      have HS := Lib.hid (show ∀ p, (wr.iterAt w.heap.size s p).heap.size = wr.heap.size from fun p => by simp [World.iterAt])
      have Hx := Lib.hid (Lib.data_getElem? s i hlt)
      by_cases ha : (s[i]'hlt).toNat < 128
      · rw [decode_ascii s i hlt ha] at hnx
        obtain ⟨x, hx⟩ : ∃ x : UInt8, s[i]'hlt = x := ⟨_, rfl⟩
        rw [hx] at hnx ha
        have Hx2 := Lib.hid (show s.data.toList[i]? = some x by rw [Hx.out, hx])
        have hcon := Lib.contains_iff_indexByte [0, 47] x
        have hback : ((x.toNat : Int)).toNat.toUInt8 = x := by simp
        clear hx Hx
        cases hin : ([0, 47] : List UInt8).contains x
        · rw [hin] at hcon
          have hn1 : Lib.indexByte [0, 47] x < 0 := by have := of_decide_eq_false hcon.symm; omega
          clear hcon
          go_wp2_with (go_at_call 192; refine (Tryz.strings_IndexRune_ascii _ _ _ (by omega) (by omega)).mono ?_; rintro e w' ⟨rfl, hw⟩; rw [hw, hback])
          go_roundg (gk - 1)
          case measure => omega
          case rel =>
            exact ⟨i + 1, by omega, by omega, HI.out _, HB.out _, Lib.hid (HN.out.succ Hx2.out hin)⟩
        · rw [hin] at hcon
          have hn1 : ¬ Lib.indexByte [0, 47] x < 0 := by have := of_decide_eq_true hcon.symm; omega
          have hn2 : 0 ≤ Lib.indexByte [0, 47] x := by omega
          clear hcon
          have HR := Lib.hid (Lib.indexAny_hit HN.out Hx2.out hin)
          go_wp2_with (go_at_call 192; refine (Tryz.strings_IndexRune_ascii _ _ _ (by omega) (by omega)).mono ?_; rintro e w' ⟨rfl, hw⟩; rw [hw, hback])
          go_ret
          exact ⟨by rw [HR.out]; rfl, HB.out _⟩
      · have hspan := Lib.hid (noAny_span s i hlt (by omega) HN.out (Utf8.decode s i).2 (Nat.le_refl _))
        have hdh := decode_high s i hlt (by omega)
        have hdl := decode_le s i
        clear Hx
        generalize Utf8.decode s i = p at *
        obtain ⟨r, n⟩ := p
        simp only at hnx hspan hdh hdl
        have hn1 : 1 ≤ n := hdh.2
        have hr1 : 128 ≤ r := hdh.1
        clear hdh ha
        go_wp2_with (go_at_call 192; refine (rune_high _ _ (by omega)).mono ?_; rintro e w5 ⟨rfl, hb5⟩)
        go_roundg (gk - n)
        case measure => have := hspan.out.1; omega
        case rel =>
          refine ⟨i + n, hspan.out.1, by have := hspan.out.1; omega, ?_, (HB.out _).trans (hb5.mono (by rw [HS.out]; omega)), Lib.hid hspan.out.2⟩
          rw [hb5.block _ (by rw [HS.out]; exact hklt)]
          exact HI.out _
    · have hie : i = s.size := by omega
      have hnx := fun ty => Lib.run_next_end_at (P := Tryz.prog) wr w.heap.size s i ty hk hlt
      have HR := Lib.hid (Lib.indexAny_none (s := s.data.toList) (chars := [0, 47]) (by rw [← Lib.size_eq, ← hie]; exact HN.out))
      clear hie
      go_wp2_with fail
      go_ret
      exact ⟨by rw [HR.out]; rfl, hb⟩

set_option maxRecDepth 100000 in
theorem info66 : (Tryz.prog.info? 271).map (fun i => (i.zero, i.size)) = some (some (.agg (Array.replicate 256 (.bool false))), 256) := by kernel_rfl
set_option maxRecDepth 100000 in
theorem any_any (s : ByteArray) (w : World) (hs : s.size ≤ 60) : Calls Tryz.prog 187 #[.string s, .string ⟨#[0, 47]⟩] w (AnyE w (Lib.indexAny s.data.toList [0, 47])) := by
  by_cases h8 : s.size ≤ 8
  · exact any_short s w h8
  · refine (Tryz.strings_IndexAny_long (zero_of_info info66).1 s ⟨#[0, 47]⟩ w (by decide) (by omega) (by omega) (by decide) ?_).mono ?_
    · intro j b hj
      match j, hj with
      | 0, hj => simp at hj; subst hj; decide
      | 1, hj => simp at hj; subst hj; decide
    · rintro e w' ⟨he, hw⟩
      exact ⟨he, by rw [hw]; exact ((Below.refl _ _).alloc (Nat.le_refl _) _).alloc (by simp) _⟩

theorem indexAny_iff (L : Bs) : (0 ≤ Lib.indexAny L [0, 47]) ↔ ((0 : UInt8) ∈ L ∨ (47 : UInt8) ∈ L) := by
  induction L with
  | nil => simp [Lib.indexAny]
  | cons b l ih =>
    unfold Lib.indexAny
    by_cases hb : b = 0 ∨ b = 47
    · have hc : ([0, 47] : List UInt8).contains b = true := by rcases hb with rfl | rfl <;> decide
      rw [if_pos hc]
      refine ⟨fun _ => ?_, fun _ => Int.le_refl _⟩
      rcases hb with rfl | rfl
      · exact .inl (by simp)
      · exact .inr (by simp)
    · have hc : ([0, 47] : List UInt8).contains b = false := by
        rw [Bool.eq_false_iff]
        intro h
        simp at h
        exact hb h
      rw [hc, if_neg (by decide)]
      have hge := Lib.indexAny_ge [0, 47] l
      have h1 : (0 : UInt8) ≠ b := fun e => hb (.inl e.symm)
      have h2 : (47 : UInt8) ≠ b := fun e => hb (.inr e.symm)
      rw [List.mem_cons, List.mem_cons]
      simp only [h1, h2, false_or]
      rw [← ih]
      split
      · rename_i h
        rw [beq_iff_eq] at h
        omega
      · rename_i h
        rw [beq_iff_eq] at h
        omega

/-- What is wrong with a name. -/
def nerr (L : Bs) : Int := if L = [] then 2 else if 60 < L.length then 36 else if (0 : UInt8) ∈ L ∨ (47 : UInt8) ∈ L then 22 else 0
def NameE (w : World) (L : Bs) (e : Ending) (w' : World) : Prop := e = .returned (.int .i64 (nerr L)) ∧ Below w.heap.size w w'

set_option maxRecDepth 100000 in
set_option maxHeartbeats 1000000 in
theorem has_any (s : ByteArray) (w : World) (hs : s.size ≤ 60) (b : Bool) (hb : decide (0 ≤ Lib.indexAny s.data.toList [0, 47]) = b) : Calls Tryz.prog 170 #[.string s, .string ⟨#[0, 47]⟩] w fun e w' => e = .returned (.bool b) ∧ Below w.heap.size w w' := by
  have HA := any_any s w hs
  generalize Lib.indexAny s.data.toList [0, 47] = n at *
  go_enter Tryz.func170, Tryz.ntmps170
  go_wp2_with (go_at_call 187; refine HA.mono ?_; rintro e w' ⟨rfl, hw⟩)
  go_ret
  exact ⟨by rw [← hb]; rfl, hw⟩

set_option maxRecDepth 100000 in
set_option maxHeartbeats 1000000 in
theorem name_any (s : ByteArray) (w : World) (hm : s.size ≤ 9223372036854775807) : Calls Tryz.prog 131 #[.string s] w (NameE w s.data.toList) := by
  by_cases h0 : s.data.toList = []
  · have e : s = ⟨#[]⟩ := by rw [← Lib.mk_data s, h0]
    subst e
    go_enter Tryz.func131, Tryz.ntmps131
    go_wp2
    go_ret
    exact ⟨rfl, Below.refl _ _⟩
  · have hne : s.toList.isEmpty = false := by
      rw [Lib.toList_data]
      cases h' : s.data.toList with
      | nil => exact absurd h' h0
      | cons _ _ => rfl
    by_cases h60 : 60 < s.size
    · have HR := Lib.hid (show nerr s.data.toList = 36 by unfold nerr; rw [if_neg h0, if_pos (by rw [← Lib.size_eq]; exact h60)])
      clear h0
      go_enter Tryz.func131, Tryz.ntmps131
      go_wp2
      go_ret
      exact ⟨by rw [HR.out]; rfl, Below.refl _ _⟩
    · by_cases hbad : (0 : UInt8) ∈ s.data.toList ∨ (47 : UInt8) ∈ s.data.toList
      · have HR := Lib.hid (show nerr s.data.toList = 22 by unfold nerr; rw [if_neg h0, if_neg (by rw [← Lib.size_eq]; exact h60), if_pos hbad])
        have HC := has_any s w (by omega) true (decide_eq_true ((indexAny_iff _).2 hbad))
        clear h0 hbad
        go_enter Tryz.func131, Tryz.ntmps131
        go_wp2_with (go_at_call 170; refine HC.mono ?_; rintro e w' ⟨rfl, hw⟩)
        go_ret
        exact ⟨by rw [HR.out]; rfl, hw⟩
      · have HR := Lib.hid (show nerr s.data.toList = 0 by unfold nerr; rw [if_neg h0, if_neg (by rw [← Lib.size_eq]; exact h60), if_neg hbad])
        have HC := has_any s w (by omega) false (decide_eq_false (fun h => hbad ((indexAny_iff _).1 h)))
        clear h0 hbad
        go_enter Tryz.func131, Tryz.ntmps131
        go_wp2_with (go_at_call 170; refine HC.mono ?_; rintro e w' ⟨rfl, hw⟩)
        go_ret
        exact ⟨by rw [HR.out]; rfl, hw⟩
end Go.Proofs.YtnnaoldpacbagaaGreat.dn
end
