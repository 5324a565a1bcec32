/- 'IndexRune' in a text of a byte 0 and a slash, at a rune that is no ASCII: not there. -/
import Derived.Test.YtchjidijgdkhoaaShelf
import Derived.Test.YtchjidijgdkhoaaMem
import Derived.Laws.Runes
import Derived.Laws.RangeAny
import Derived.Lib.OthersKept
namespace Go.Proofs.Ytchjidijgdkhoaa
open Go.RowKit

theorem encode_form (r : Int) (hv : Utf8.valid r = true) (h128 : 128 ≤ r) :
    (∃ a b : UInt8, Utf8.encode r = ⟨#[a, b]⟩ ∧ 128 ≤ b.toNat) ∨ (∃ a b c : UInt8, Utf8.encode r = ⟨#[a, b, c]⟩) ∨ ∃ a b c d : UInt8, Utf8.encode r = ⟨#[a, b, c, d]⟩ := by
  have hc : ¬ r.toNat < 128 := by omega
  unfold Utf8.encode
  simp only [hv, if_true, hc, if_false]
  split
  · exact .inl ⟨_, _, rfl, by simp; omega⟩
  · split
    · exact .inr (.inl ⟨_, _, _, rfl⟩)
    · exact .inr (.inr ⟨_, _, _, _, rfl⟩)

theorem none_ext (c : Int) (w : World) : Calls Try.prog 44 #[.string ((⟨#[0, 47]⟩ : ByteArray).extract 2 2), .int .u8 c] w fun e w' => e = .returned (.int .i64 (-1)) ∧ w' = w :=
  (Try.strings_IndexByte _ c w).mono fun e w' ⟨he, hw⟩ => ⟨by rw [he]; rfl, hw⟩
theorem none_nil (c : Int) (w : World) : Calls Try.prog 44 #[.string ⟨#[]⟩, .int .u8 c] w fun e w' => e = .returned (.int .i64 (-1)) ∧ w' = w :=
  (Try.strings_IndexByte ⟨#[]⟩ c w).mono fun e w' ⟨he, hw⟩ => ⟨by rw [he]; rfl, hw⟩
def NotThere (w : World) (e : Ending) (w' : World) : Prop := e = .returned (.int .i64 (-1)) ∧ Below w.heap.size w w'

theorem valid_lib (r : Int) : Lib.validRune r = Utf8.valid r := (validRune_eq r).symm

theorem quiet_add_same' {P : Program} {f : FuncId} {args : Array Value} {w : World} {a n : Nat} {v : Value}
    (h : Calls P f args (w.drewN (a + n)) fun e w' => e = .returned v ∧ w' = w.drewN (a + n)) : Calls P f args (w.drewN (a + n)) fun e w'' => e = .returned v ∧ ∃ m, w'' = w.drewN (a + m) :=
  h.mono fun _ _ ⟨he, hm⟩ => ⟨he, n, hm⟩
theorem valid_any (r : Int) (b : Bool) (w : World) (hv : Lib.validRune r = b) : Calls Try.prog 45 #[.int .i32 r] w fun e w' => e = .returned (.bool b) ∧ w = w' :=
  (Try.utf8_ValidRune r w).mono fun e w' ⟨he, hw⟩ => ⟨by rw [he, hv], hw.symm⟩

set_option maxHeartbeats 2000000 in
set_option maxRecDepth 100000 in
theorem rune_bad (r : Int) (w : World) (h128 : 128 ≤ r) (hv : Lib.validRune r = false) (hr : ¬ r = 65533) : Calls Try.prog 39 #[.string ⟨#[0, 47]⟩, .int .i32 r] w (NotThere w) := by
  have hrB : (r == 65533) = false := beq_eq_false_iff_ne.2 hr
  have HV := Lib.hid (fun w => valid_any r false w hv)
  clear hv hr
  go_enter Try.func39, Try.ntmps39
  go_wp2_with (go_at_call 45; refine (HV.out _).mono ?_; rintro e w' ⟨rfl, rfl⟩)
  go_ret
  exact ⟨rfl, Below.refl _ _⟩

set_option maxHeartbeats 2000000 in
set_option maxRecDepth 100000 in
theorem rune_good (r : Int) (w : World) (h128 : 128 ≤ r) (hv : Lib.validRune r = true) (hr : ¬ r = 65533) : Calls Try.prog 39 #[.string ⟨#[0, 47]⟩, .int .i32 r] w (NotThere w) := by
  have hrB : (r == 65533) = false := beq_eq_false_iff_ne.2 hr
  have HV := Lib.hid (fun w => valid_any r true w hv)
  have HF := Lib.hid (encode_form r (by rw [← valid_lib]; exact hv) h128)
  clear hv hr
  rcases HF.out with ⟨a, b, he, hb⟩ | ⟨a, b, c, he⟩ | ⟨a, b, c, d, he⟩
  · have hbI : (128 : Int) ≤ (b.toNat : Int) := by omega
    have hne : ((47 : Int) != (b.toNat : Int)) = true := by rw [bne_iff_ne]; omega
    have hne2 : ((((⟨#[0, 47]⟩ : ByteArray)[1]'(by show 1 < 2; decide)).toNat : Int) != (((⟨#[a, b]⟩ : ByteArray)[1]'(by show 1 < 2; decide)).toNat : Int)) = true := hne
    clear HF hb
    go_enter Try.func39, Try.ntmps39
    go_wp2_with (go_at_call 45; refine (HV.out _).mono ?_; rintro e w' ⟨rfl, rfl⟩)
    go_step3
    go_wp2_with fail
    refine wp_loop_rounds 1 ?_
    rw [rounds_succ]
    go_wp2_with fail
    go_step3
    go_wp2_with fail
    go_quiet (fail)
    go_wp2_with fail
    have hw2 : IntKind.i64.wrap 2 = 2 := by decide
    go_quiet ((go_at_call 44; first | exact quiet_add_same' (none_nil _ _) | exact quiet_add_same' (none_ext _ _)))
    go_wp2_with fail
    try rw [Exit.noGoto_ret]
    go_ret
    exact ⟨rfl, below_drewN (Below.refl _ _) _⟩
  · clear HF
    go_enter Try.func39, Try.ntmps39
    go_wp2_with (go_at_call 45; refine (HV.out _).mono ?_; rintro e w' ⟨rfl, rfl⟩)
    go_step3
    go_wp2_with fail
    refine wp_loop_rounds 1 ?_
    rw [rounds_succ]
    go_wp2_with fail
    try rw [Exit.noGoto_ret]
    go_ret
    exact ⟨rfl, Below.refl _ _⟩
  · clear HF
    go_enter Try.func39, Try.ntmps39
    go_wp2_with (go_at_call 45; refine (HV.out _).mono ?_; rintro e w' ⟨rfl, rfl⟩)
    go_step3
    go_wp2_with fail
    refine wp_loop_rounds 1 ?_
    rw [rounds_succ]
    go_wp2_with fail
    try rw [Exit.noGoto_ret]
    go_ret
    exact ⟨rfl, Below.refl _ _⟩
set_option maxHeartbeats 2000000 in
set_option maxRecDepth 100000 in
theorem rune_err (w : World) : Calls Try.prog 39 #[.string ⟨#[0, 47]⟩, .int .i32 65533] w (NotThere w) := by
  have n0 := fun ty => run_next_ascii (P := Try.prog) w ⟨#[0, 47]⟩ 0 ty (by show 0 < 2; decide) (by show (0 : UInt8).toNat < 128; decide)
  have n1 := fun ty => run_next_ascii (P := Try.prog) w ⟨#[0, 47]⟩ 1 ty (by show 1 < 2; decide) (by show (47 : UInt8).toNat < 128; decide)
  have n2 := fun ty => run_next_end (P := Try.prog) w ⟨#[0, 47]⟩ 2 ty (by show ¬ 2 < 2; decide)
  have m0 : (((⟨#[0, 47]⟩ : ByteArray)[0]'(by show 0 < 2; decide)).toNat : Int) = 0 := rfl
  have m1 : (((⟨#[0, 47]⟩ : ByteArray)[1]'(by show 1 < 2; decide)).toNat : Int) = 47 := rfl
  rw [m0] at n0
  rw [m1] at n1
  clear m0 m1
  go_enter Try.func39, Try.ntmps39
  go_wp2_with fail
  refine wp_loop_rounds 3 ?_
  rw [rounds_succ]
  go_wp2_with fail
  rw [rounds_succ]
  go_wp2_with fail
  rw [rounds_succ]
  go_wp2_with fail
  try rw [Exit.noGoto_ret]
  go_ret
  exact ⟨rfl, (Below.refl _ _).alloc (Nat.le_refl _) _⟩

/-- At any rune that is no ASCII. -/
theorem rune_high (r : Int) (w : World) (h128 : 128 ≤ r) : Calls Try.prog 39 #[.string ⟨#[0, 47]⟩, .int .i32 r] w (NotThere w) := by
  by_cases hr : r = 65533
  · subst hr
    exact rune_err w
  · cases hv : Lib.validRune r
    · exact rune_bad r w h128 hv hr
    · exact rune_good r w h128 hv hr

end Go.Proofs.Ytchjidijgdkhoaa
