/- Part 4 of what is known of the program's functions and of the document's words: contracts, and the mathematics beneath them. -/
import Derived.Test.YtpmpbmjjlccbbaaGreatProg
import Derived.Shelf.Small.Utf8
import Derived.Shelf.Small.Strs
import Derived.Shelf.Strings.Search1
import Derived.Shelf.Strings.Prefix
import Derived.Shelf.Strings.Runes
import Derived.Shelf.Strings.IndexAny
import Derived.Shelf.Strings.AsciiSet
import Derived.Shelf.Strings.IndexAnyAll
import Derived.Ground.Names2Prog
import Derived.Shelf.Slices.Clone
import Derived.Test.YtpmpbmjjlccbbaaGreatZ02
import Derived.Laws.Runes
import Derived.Laws.RangeAny
import Derived.Lib.OthersKept
import Derived.Test.YtpmpbmjjlccbbaaGreatZ03
set_option linter.unusedVariables false
set_option linter.unusedSimpArgs false
set_option maxRecDepth 100000
set_option maxHeartbeats 8000000
namespace Go.Proofs
open Go.Shelf
def Tryz.lays119_ren : Go.Shelf.Ren := ⟨fun | 119 => 231 | n => n, fun | 21 => 21 | 4 => 4 | n => n, fun | n => n⟩
theorem Tryz.lays119 : Go.Proofs.Lays.n119 Tryz.prog Tryz.lays119_ren := {
 mixed := by kernel_rfl
 f119 := Tryz.func231.trans (congrArg some (by kernel_rfl))
 t4 := Tryz.underlying4
 a4 := Tryz.isAgg4
 z4 := Tryz.sizeOf4
 v4 := Tryz.zeroValue4
 t21 := Tryz.underlying21
 a21 := Tryz.isAgg21
 z21 := Tryz.sizeOf21
 v21 := Tryz.zeroValue21 }
theorem Tryz.utf8_ValidRune (r : Int) (w : World) :
 Calls Tryz.prog 231 #[.int .i32 r] w fun e w' => e = .returned (.bool (Lib.validRune r)) ∧ w' = w := Any.utf8_ValidRune Tryz.lays119 r w
def Tryz.lays137_ren : Go.Shelf.Ren := ⟨fun | 137 => 178 | 217 => 204 | 266 => 218 | n => n, fun | 9 => 9 | 5 => 5 | 3 => 3 | n => n, fun | n => n⟩
theorem Tryz.lays137 : Go.Proofs.Lays.n137 Tryz.prog Tryz.lays137_ren := {
 mixed := by kernel_rfl
 f137 := Tryz.func178.trans (congrArg some (by kernel_rfl))
 f217 := Tryz.func204.trans (congrArg some (by kernel_rfl))
 f266 := Tryz.func218.trans (congrArg some (by kernel_rfl))
 t3 := Tryz.underlying3
 a3 := Tryz.isAgg3
 z3 := Tryz.sizeOf3
 v3 := Tryz.zeroValue3
 t5 := Tryz.underlying5
 a5 := Tryz.isAgg5
 z5 := Tryz.sizeOf5
 v5 := Tryz.zeroValue5
 t9 := Tryz.underlying9
 a9 := Tryz.isAgg9
 z9 := Tryz.sizeOf9
 v9 := Tryz.zeroValue9 }
open Go.RowKit in
theorem Tryz.strings_IndexByte (s : ByteArray) (c : Int) (w : World) :
 Calls Tryz.prog 178 #[.string s, .int .u8 c] w fun e w' => e = .returned (.int .i64 (Lib.indexByte s.data.toList c.toNat.toUInt8)) ∧ w' = w := Any.strings_IndexByte Tryz.lays137 s c w
def Tryz.lays206_ren : Go.Shelf.Ren := ⟨fun | 206 => 224 | n => n, fun | 9 => 9 | 4 => 4 | 3 => 3 | n => n, fun | n => n⟩
def Tryz.lays99_ren : Go.Shelf.Ren := ⟨fun | 99 => 220 | 206 => 224 | n => n, fun | 9 => 9 | 4 => 4 | 3 => 3 | n => n, fun | n => n⟩
theorem Tryz.lays99 : Go.Proofs.Lays.n99 Tryz.prog Tryz.lays99_ren := {
 mixed := by kernel_rfl
 f99 := Tryz.func220.trans (congrArg some (by kernel_rfl))
 f206 := Tryz.func224.trans (congrArg some (by kernel_rfl))
 t3 := Tryz.underlying3
 a3 := Tryz.isAgg3
 z3 := Tryz.sizeOf3
 v3 := Tryz.zeroValue3
 t4 := Tryz.underlying4
 a4 := Tryz.isAgg4
 z4 := Tryz.sizeOf4
 v4 := Tryz.zeroValue4
 t9 := Tryz.underlying9
 a9 := Tryz.isAgg9
 z9 := Tryz.sizeOf9
 v9 := Tryz.zeroValue9 }
open Go.RowKit Go.Lib in
theorem Tryz.strings_HasPrefix (s p : ByteArray) (w : World) :
 Calls Tryz.prog 220 #[.string s, .string p] w fun e w' => e = .returned (.bool (Lib.hasPrefix s.data.toList p.data.toList)) ∧ w' = w := Any.strings_HasPrefix Tryz.lays99 s p w
def Tryz.lays100_ren : Go.Shelf.Ren := ⟨fun | 100 => 206 | 207 => 219 | n => n, fun | 9 => 9 | 4 => 4 | 3 => 3 | n => n, fun | n => n⟩
theorem Tryz.lays100 : Go.Proofs.Lays.n100 Tryz.prog Tryz.lays100_ren := {
 mixed := by kernel_rfl
 f100 := Tryz.func206.trans (congrArg some (by kernel_rfl))
 f207 := Tryz.func219.trans (congrArg some (by kernel_rfl))
 t3 := Tryz.underlying3
 a3 := Tryz.isAgg3
 z3 := Tryz.sizeOf3
 v3 := Tryz.zeroValue3
 t4 := Tryz.underlying4
 a4 := Tryz.isAgg4
 z4 := Tryz.sizeOf4
 v4 := Tryz.zeroValue4
 t9 := Tryz.underlying9
 a9 := Tryz.isAgg9
 z9 := Tryz.sizeOf9
 v9 := Tryz.zeroValue9 }
open Go.RowKit Go.Lib in
theorem Tryz.strings_HasSuffix (s p : ByteArray) (w : World) (hs : s.size ≤ 9223372036854775807) :
 Calls Tryz.prog 206 #[.string s, .string p] w fun e w' => e = .returned (.bool (Lib.hasSuffix s.data.toList p.data.toList)) ∧ w' = w := Any.strings_HasSuffix Tryz.lays100 s p w hs
def Tryz.lays152_ren : Go.Shelf.Ren := ⟨fun | 152 => 226 | 137 => 178 | 119 => 231 | 224 => 232 | 225 => 233 | 217 => 204 | 266 => 218 | n => n, fun | 9 => 9 | 21 => 21 | 3 => 3 | 4 => 4 | 5 => 5 | 0 => 0 | 46 => 114 | n => n, fun | n => n⟩
theorem Tryz.lays152 : Go.Proofs.Lays.n152 Tryz.prog Tryz.lays152_ren := {
 mixed := by kernel_rfl
 f119 := Tryz.func231.trans (congrArg some (by kernel_rfl))
 f137 := Tryz.func178.trans (congrArg some (by kernel_rfl))
 f152 := Tryz.func226.trans (congrArg some (by kernel_rfl))
 f217 := Tryz.func204.trans (congrArg some (by kernel_rfl))
 f224 := Tryz.func232.trans (congrArg some (by kernel_rfl))
 f225 := Tryz.func233.trans (congrArg some (by kernel_rfl))
 f266 := Tryz.func218.trans (congrArg some (by kernel_rfl))
 t0 := Tryz.underlying0
 a0 := Tryz.isAgg0
 z0 := Tryz.sizeOf0
 v0 := Tryz.zeroValue0
 t3 := Tryz.underlying3
 a3 := Tryz.isAgg3
 z3 := Tryz.sizeOf3
 v3 := Tryz.zeroValue3
 t4 := Tryz.underlying4
 a4 := Tryz.isAgg4
 z4 := Tryz.sizeOf4
 v4 := Tryz.zeroValue4
 t5 := Tryz.underlying5
 a5 := Tryz.isAgg5
 z5 := Tryz.sizeOf5
 v5 := Tryz.zeroValue5
 t9 := Tryz.underlying9
 a9 := Tryz.isAgg9
 z9 := Tryz.sizeOf9
 v9 := Tryz.zeroValue9
 t21 := Tryz.underlying21
 a21 := Tryz.isAgg21
 z21 := Tryz.sizeOf21
 v21 := Tryz.zeroValue21
 t46 := Tryz.underlying114
 a46 := Tryz.isAgg114
 z46 := Tryz.sizeOf114
 v46 := Tryz.zeroValue114 }
open Go.RowKit Go.Lib in
theorem Tryz.strings_IndexRune_ascii (s : ByteArray) (r : Int) (w : World) (h0 : 0 ≤ r) (h1 : r < 128) :
 Calls Tryz.prog 226 #[.string s, .int .i32 r] w fun e w' => e = .returned (.int .i64 (Lib.indexByte s.data.toList r.toNat.toUInt8)) ∧ w' = w := Any.strings_IndexRune_ascii Tryz.lays152 s r w h0 h1
def Tryz.lays226_ren : Go.Shelf.Ren := ⟨fun | 226 => 227 | n => n, fun | 3 => 3 | 4 => 4 | n => n, fun | n => n⟩
theorem Tryz.lays226 : Go.Proofs.Lays.n226 Tryz.prog Tryz.lays226_ren := {
 mixed := by kernel_rfl
 f226 := Tryz.func227.trans (congrArg some (by kernel_rfl))
 t3 := Tryz.underlying3
 a3 := Tryz.isAgg3
 z3 := Tryz.sizeOf3
 v3 := Tryz.zeroValue3
 t4 := Tryz.underlying4
 a4 := Tryz.isAgg4
 z4 := Tryz.sizeOf4
 v4 := Tryz.zeroValue4 }
open Go.RowKit Go.Lib in
theorem Tryz.strings_shouldUseASCIISet (n : Int) (w : World) :
 Calls Tryz.prog 227 #[.int .i64 n] w fun e w' => e = .returned (.bool (decide (8 < n))) ∧ w' = w := Any.strings_shouldUseASCIISet Tryz.lays226 n w
def Tryz.lays153_ren : Go.Shelf.Ren := ⟨fun | 153 => 222 | 152 => 226 | 226 => 227 | 227 => 228 | 228 => 229 | 137 => 178 | 119 => 231 | 224 => 232 | 225 => 233 | 217 => 204 | 266 => 218 | n => n, fun | 9 => 9 | 3 => 3 | 4 => 4 | 5 => 5 | 21 => 21 | 117 => 262 | 116 => 261 | 0 => 0 | 46 => 114 | 124 => 267 | n => n, fun | n => n⟩
theorem Tryz.lays153 : Go.Proofs.Lays.n153 Tryz.prog Tryz.lays153_ren := {
 mixed := by kernel_rfl
 f119 := Tryz.func231.trans (congrArg some (by kernel_rfl))
 f137 := Tryz.func178.trans (congrArg some (by kernel_rfl))
 f152 := Tryz.func226.trans (congrArg some (by kernel_rfl))
 f153 := Tryz.func222.trans (congrArg some (by kernel_rfl))
 f217 := Tryz.func204.trans (congrArg some (by kernel_rfl))
 f224 := Tryz.func232.trans (congrArg some (by kernel_rfl))
 f225 := Tryz.func233.trans (congrArg some (by kernel_rfl))
 f226 := Tryz.func227.trans (congrArg some (by kernel_rfl))
 f227 := Tryz.func228.trans (congrArg some (by kernel_rfl))
 f228 := Tryz.func229.trans (congrArg some (by kernel_rfl))
 f266 := Tryz.func218.trans (congrArg some (by kernel_rfl))
 t0 := Tryz.underlying0
 a0 := Tryz.isAgg0
 z0 := Tryz.sizeOf0
 v0 := Tryz.zeroValue0
 t3 := Tryz.underlying3
 a3 := Tryz.isAgg3
 z3 := Tryz.sizeOf3
 v3 := Tryz.zeroValue3
 t4 := Tryz.underlying4
 a4 := Tryz.isAgg4
 z4 := Tryz.sizeOf4
 v4 := Tryz.zeroValue4
 t5 := Tryz.underlying5
 a5 := Tryz.isAgg5
 z5 := Tryz.sizeOf5
 v5 := Tryz.zeroValue5
 t9 := Tryz.underlying9
 a9 := Tryz.isAgg9
 z9 := Tryz.sizeOf9
 v9 := Tryz.zeroValue9
 t21 := Tryz.underlying21
 a21 := Tryz.isAgg21
 z21 := Tryz.sizeOf21
 v21 := Tryz.zeroValue21
 t46 := Tryz.underlying114
 a46 := Tryz.isAgg114
 z46 := Tryz.sizeOf114
 v46 := Tryz.zeroValue114
 t116 := Tryz.underlying261
 a116 := Tryz.isAgg261
 z116 := Tryz.sizeOf261
 t117 := Tryz.underlying262
 a117 := Tryz.isAgg262
 z117 := Tryz.sizeOf262
 v117 := Tryz.zeroValue262
 t124 := Tryz.underlying267
 a124 := Tryz.isAgg267
 z124 := Tryz.sizeOf267
 v124 := Tryz.zeroValue267 }
open Go.RowKit Go.Lib in
theorem Tryz.strings_IndexAny_long (hv116 : ∀ w, (zeroValue 261).run Tryz.prog w = .ok (.agg (Array.replicate 256 (.bool false))) w) (s chars : ByteArray) (w : World) (h2 : 2 ≤ chars.size) (h8 : 8 < s.size) (hs : s.size < 4294967281) (hcs : chars.size < 4294967281) (hascii : ∀ (j : Nat) b, chars.data.toList[j]? = some b → b.toNat < 128) :
 Calls Tryz.prog 222 #[.string s, .string chars] w fun e w' => e = .returned (.int .i64 (Lib.indexAny s.data.toList chars.data.toList)) ∧ w' = ((w.alloc (.cells (Lib.setCells chars.data.toList) 261)).alloc (.cells (Lib.setCells chars.data.toList) 261)) := Any.strings_IndexAny_long Tryz.lays153 hv116 (by kernel_rfl) s chars w h2 h8 hs hcs hascii
end Go.Proofs
namespace Go.Proofs.YtpmpbmjjlccbbaaGreat.dn
open Go.RowKit
theorem encode_form (r : Int) (hv : Utf8.valid r = true) (h128 : 128 ≤ r) :
  (∃ a b : UInt8, Utf8.encode r = ⟨#[a, b]⟩ ∧ 128 ≤ b.toNat) ∨ (∃ a b c : UInt8, Utf8.encode r = ⟨#[a, b, c]⟩) ∨ ∃ a b c d : UInt8, Utf8.encode r = ⟨#[a, b, c, d]⟩ := by
 have hc : ¬ r.toNat < 128 := by omega
 unfold Utf8.encode
 simp only [hv, if_true, hc, if_false]
 split
 ·exact .inl ⟨_, _, rfl, by simp; omega⟩
 ·split
  ·exact .inr (.inl ⟨_, _, _, rfl⟩)
  ·exact .inr (.inr ⟨_, _, _, _, rfl⟩)
theorem none_ext (c : Int) (w : World) : Calls Tryz.prog 178 #[.string ((⟨#[0, 47]⟩ : ByteArray).extract 2 2), .int .u8 c] w fun e w' => e = .returned (.int .i64 (-1)) ∧ w' = w :=
 (Tryz.strings_IndexByte _ c w).mono fun e w' ⟨he, hw⟩ => ⟨by rw [he]; rfl, hw⟩
theorem none_nil (c : Int) (w : World) : Calls Tryz.prog 178 #[.string ⟨#[]⟩, .int .u8 c] w fun e w' => e = .returned (.int .i64 (-1)) ∧ w' = w :=
 (Tryz.strings_IndexByte ⟨#[]⟩ c w).mono fun e w' ⟨he, hw⟩ => ⟨by rw [he]; rfl, hw⟩
def NotThere (w : World) (e : Ending) (w' : World) : Prop := e = .returned (.int .i64 (-1)) ∧ Below w.heap.size w w'
theorem valid_lib (r : Int) : Lib.validRune r = Utf8.valid r := (validRune_eq r).symm
theorem quiet_add_same' {P : Program} {f : FuncId} {args : Array Value} {w : World} {a n : Nat} {v : Value}
  (h : Calls P f args (w.drewN (a + n)) fun e w' => e = .returned v ∧ w' = w.drewN (a + n)) : Calls P f args (w.drewN (a + n)) fun e w'' => e = .returned v ∧ ∃ m, w'' = w.drewN (a + m) :=
 h.mono fun _ _ ⟨he, hm⟩ => ⟨he, n, hm⟩
theorem valid_any (r : Int) (b : Bool) (w : World) (hv : Lib.validRune r = b) : Calls Tryz.prog 231 #[.int .i32 r] w fun e w' => e = .returned (.bool b) ∧ w = w' :=
 (Tryz.utf8_ValidRune r w).mono fun e w' ⟨he, hw⟩ => ⟨by rw [he, hv], hw.symm⟩
theorem rune_bad (r : Int) (w : World) (h128 : 128 ≤ r) (hv : Lib.validRune r = false) (hr : ¬ r = 65533) : Calls Tryz.prog 226 #[.string ⟨#[0, 47]⟩, .int .i32 r] w (NotThere w) := by
 have hrB : (r == 65533) = false := beq_eq_false_iff_ne.2 hr
 have HV := Lib.hid (fun w => valid_any r false w hv)
 clear hv hr
 go_enter Tryz.func226, Tryz.ntmps226
 go_wp2_with (go_at_call 231; refine (HV.out _).mono ?_; rintro e w' ⟨rfl, rfl⟩)
 go_ret
 exact ⟨rfl, Below.refl _ _⟩
theorem rune_good (r : Int) (w : World) (h128 : 128 ≤ r) (hv : Lib.validRune r = true) (hr : ¬ r = 65533) : Calls Tryz.prog 226 #[.string ⟨#[0, 47]⟩, .int .i32 r] w (NotThere w) := by
 have hrB : (r == 65533) = false := beq_eq_false_iff_ne.2 hr
 have HV := Lib.hid (fun w => valid_any r true w hv)
 have HF := Lib.hid (encode_form r (by rw [← valid_lib]; exact hv) h128)
 clear hv hr
 rcases HF.out with ⟨a, b, he, hb⟩ | ⟨a, b, c, he⟩ | ⟨a, b, c, d, he⟩
 ·have hbI : (128 : Int) ≤ (b.toNat : Int) := by omega
  have hne : ((47 : Int) != (b.toNat : Int)) = true := by rw [bne_iff_ne]; omega
  have hne2 : ((((⟨#[0, 47]⟩ : ByteArray)[1]'(by show 1 < 2; decide)).toNat : Int) != (((⟨#[a, b]⟩ : ByteArray)[1]'(by show 1 < 2; decide)).toNat : Int)) = true := hne
  clear HF hb
  go_enter Tryz.func226, Tryz.ntmps226
  go_wp2_with (go_at_call 231; refine (HV.out _).mono ?_; rintro e w' ⟨rfl, rfl⟩)
  go_step3
  go_wp2_with fail
  refine wp_loop_rounds 1 ?_
  rw [rounds_succ]
  go_wp2_with fail
  go_step3
  go_wp2_with fail
  go_quiet (fail)
  go_wp2_with fail
  have hw2 : IntKind.i64.wrap 2 = 2 := by decide
  go_quiet ((go_at_call 178; first | exact quiet_add_same' (none_nil _ _) | exact quiet_add_same' (none_ext _ _)))
  go_wp2_with fail
  try rw [Exit.noGoto_ret]
  go_ret
  exact ⟨rfl, below_drewN (Below.refl _ _) _⟩
 ·clear HF
  go_enter Tryz.func226, Tryz.ntmps226
  go_wp2_with (go_at_call 231; refine (HV.out _).mono ?_; rintro e w' ⟨rfl, rfl⟩)
  go_step3
  go_wp2_with fail
  refine wp_loop_rounds 1 ?_
  rw [rounds_succ]
  go_wp2_with fail
  try rw [Exit.noGoto_ret]
  go_ret
  exact ⟨rfl, Below.refl _ _⟩
 ·clear HF
  go_enter Tryz.func226, Tryz.ntmps226
  go_wp2_with (go_at_call 231; refine (HV.out _).mono ?_; rintro e w' ⟨rfl, rfl⟩)
  go_step3
  go_wp2_with fail
  refine wp_loop_rounds 1 ?_
  rw [rounds_succ]
  go_wp2_with fail
  try rw [Exit.noGoto_ret]
  go_ret
  exact ⟨rfl, Below.refl _ _⟩
theorem rune_err (w : World) : Calls Tryz.prog 226 #[.string ⟨#[0, 47]⟩, .int .i32 65533] w (NotThere w) := by
 have n0 := fun ty => run_next_ascii (P := Tryz.prog) w ⟨#[0, 47]⟩ 0 ty (by show 0 < 2; decide) (by show (0 : UInt8).toNat < 128; decide)
 have n1 := fun ty => run_next_ascii (P := Tryz.prog) w ⟨#[0, 47]⟩ 1 ty (by show 1 < 2; decide) (by show (47 : UInt8).toNat < 128; decide)
 have n2 := fun ty => run_next_end (P := Tryz.prog) w ⟨#[0, 47]⟩ 2 ty (by show ¬ 2 < 2; decide)
 have m0 : (((⟨#[0, 47]⟩ : ByteArray)[0]'(by show 0 < 2; decide)).toNat : Int) = 0 := rfl
 have m1 : (((⟨#[0, 47]⟩ : ByteArray)[1]'(by show 1 < 2; decide)).toNat : Int) = 47 := rfl
 rw [m0] at n0
 rw [m1] at n1
 clear m0 m1
 go_enter Tryz.func226, Tryz.ntmps226
 go_wp2_with fail
 refine wp_loop_rounds 3 ?_
 rw [rounds_succ]
 go_wp2_with fail
 rw [rounds_succ]
 go_wp2_with fail
 rw [rounds_succ]
 go_wp2_with fail
 try rw [Exit.noGoto_ret]
 go_ret
 exact ⟨rfl, (Below.refl _ _).alloc (Nat.le_refl _) _⟩
theorem rune_high (r : Int) (w : World) (h128 : 128 ≤ r) : Calls Tryz.prog 226 #[.string ⟨#[0, 47]⟩, .int .i32 r] w (NotThere w) := by
 by_cases hr : r = 65533
 ·subst hr
  exact rune_err w
 ·cases hv : Lib.validRune r
  ·exact rune_bad r w h128 hv hr
  ·exact rune_good r w h128 hv hr
theorem decode_span (s : ByteArray) (pos : Nat) (h : pos < s.size) (ha : 128 ≤ (s[pos]'h).toNat) : ∀ k, k < (Utf8.decode s pos).2 → pos + k < s.size ∧ 128 ≤ (s.get! (pos + k)).toNat := by
 have e0 := get_at s pos h
 have h0 : pos + 0 < s.size ∧ 128 ≤ (s.get! (pos + 0)).toNat := ⟨by omega, by rw [e0]; exact ha⟩
 have hn : ¬ (s[pos]'h).toNat < 128 := by omega
 intro k
 simp only [Utf8.decode, e0, hn, if_false]
 have hk0 : k < 1 → pos + k < s.size ∧ 128 ≤ (s.get! (pos + k)).toNat := fun hk => by
  have : k = 0 := by omega
  subst this
  exact h0
 have hc : ∀ i : Nat, (decide (pos + i < s.size) && (s.get! (pos + i)).toNat / 64 == 2) = true → pos + i < s.size ∧ 128 ≤ (s.get! (pos + i)).toNat := fun i hi => by
  simp only [Bool.and_eq_true, decide_eq_true_eq, beq_iff_eq] at hi
  exact ⟨hi.1, by omega⟩
 split
 ·rename_i h2
  simp only [Bool.and_eq_true] at h2
  have c1 := hc 1 (by simp only [Bool.and_eq_true]; exact h2.2)
  split
  ·intro hk
   rcases (show k = 0 ∨ k = 1 by simp at hk; omega) with rfl | rfl
   ·exact h0
   ·exact c1
  ·exact fun hk => hk0 hk
 ·split
  ·rename_i h2
   simp only [Bool.and_eq_true] at h2
   have c1 := hc 1 (by simp only [Bool.and_eq_true]; exact h2.1.2)
   have c2 := hc 2 (by simp only [Bool.and_eq_true]; exact h2.2)
   split
   ·intro hk
    rcases (show k = 0 ∨ k = 1 ∨ k = 2 by simp at hk; omega) with rfl | rfl | rfl
    ·exact h0
    ·exact c1
    ·exact c2
   ·exact fun hk => hk0 hk
  ·split
   ·rename_i h2
    simp only [Bool.and_eq_true] at h2
    have c1 := hc 1 (by simp only [Bool.and_eq_true]; exact h2.1.1.2)
    have c2 := hc 2 (by simp only [Bool.and_eq_true]; exact h2.1.2)
    have c3 := hc 3 (by simp only [Bool.and_eq_true]; exact h2.2)
    split
    ·intro hk
     rcases (show k = 0 ∨ k = 1 ∨ k = 2 ∨ k = 3 by simp at hk; omega) with rfl | rfl | rfl | rfl
     ·exact h0
     ·exact c1
     ·exact c2
     ·exact c3
    ·exact fun hk => hk0 hk
   ·exact fun hk => hk0 hk
theorem below_iterAt {B : Nat} {a w : World} (h : Below B a w) {k : Nat} (hk : B ≤ k) (s : ByteArray) (p : Nat) : Below B a (w.iterAt k s p) :=
 h.trans ⟨rfl, rfl, rfl, by simp [World.iterAt], fun i hi => by simp only [World.iterAt]; rw [Array.getElem?_setIfInBounds_ne (by omega)]⟩
theorem noAny_span (s : ByteArray) (pos : Nat) (h : pos < s.size) (ha : 128 ≤ (s[pos]'h).toNat) (hno : Lib.NoAny s.data.toList [0, 47] pos) :
  ∀ k, k ≤ (Utf8.decode s pos).2 → pos + k ≤ s.size ∧ Lib.NoAny s.data.toList [0, 47] (pos + k) := by
 intro k
 induction k with
 | zero => exact fun _ => ⟨by omega, hno⟩
 | succ k ih =>
  intro hk
  obtain ⟨_, h1⟩ := ih (by omega)
  obtain ⟨h2, h3⟩ := decode_span s pos h ha k (by omega)
  have e := get_at s (pos + k) h2
  rw [Nat.add_zero] at e
  rw [e] at h3
  refine ⟨by omega, h1.succ (x := s[pos + k]'h2) (Lib.data_getElem? s (pos + k) h2) ?_⟩
  rw [Bool.eq_false_iff]
  intro hc
  simp at hc
  rcases hc with hc | hc <;> rw [hc] at h3 <;> exact absurd h3 (by decide)
def AnyE (w : World) (v : Int) (e : Ending) (w' : World) : Prop := e = .returned (.int .i64 v) ∧ Below w.heap.size w w'
theorem any_short (s : ByteArray) (w : World) (h8 : s.size ≤ 8) : Calls Tryz.prog 222 #[.string s, .string ⟨#[0, 47]⟩] w (AnyE w (Lib.indexAny s.data.toList [0, 47])) := by
 have h8z : decide ((8 : Int) < (s.size : Int)) = false := decide_eq_false (by omega)
 go_enter Tryz.func222, Tryz.ntmps222
 go_wp2_with (go_at_call 227; refine (Tryz.strings_shouldUseASCIISet _ _).mono ?_; rintro e w' ⟨rfl, hw⟩; rw [hw, h8z])
 go_loopg [9, 10] s.size (fun g _ _ wx => ∃ i : Nat, i ≤ s.size ∧ g + i = s.size ∧ wx.heap[w.heap.size]? = some (.stringIter s i) ∧ Below w.heap.size w wx ∧ Hid (Lib.NoAny s.data.toList [0, 47] i))
 case atStart => exact ⟨0, by omega, by omega, World.iter_heap w s 0, (Below.refl _ _).alloc (Nat.le_refl _) _, Lib.NoAny.zero _ _⟩
 case round =>
  obtain ⟨i, hi, hg, hk, hb, HN⟩ := hrel
  have hklt : w.heap.size < wr.heap.size := (Array.getElem?_eq_some_iff.1 hk).1
  by_cases hlt : i < s.size
  ·have hnx := fun ty => Lib.run_next_any_at (P := Tryz.prog) wr w.heap.size s i ty hk hlt
   have HI := Lib.hid (fun p => Lib.iterAt_heap wr w.heap.size s i p hk)
   have HB := Lib.hid (fun p => below_iterAt hb (Nat.le_refl _) s p)
   have HS := Lib.hid (show ∀ p, (wr.iterAt w.heap.size s p).heap.size = wr.heap.size from fun p => by simp [World.iterAt])
   have Hx := Lib.hid (Lib.data_getElem? s i hlt)
   by_cases ha : (s[i]'hlt).toNat < 128
   ·rw [decode_ascii s i hlt ha] at hnx
    obtain ⟨x, hx⟩ : ∃ x : UInt8, s[i]'hlt = x := ⟨_, rfl⟩
    rw [hx] at hnx ha
    have Hx2 := Lib.hid (show s.data.toList[i]? = some x by rw [Hx.out, hx])
    have hcon := Lib.contains_iff_indexByte [0, 47] x
    have hback : ((x.toNat : Int)).toNat.toUInt8 = x := by simp
    clear hx Hx
    cases hin : ([0, 47] : List UInt8).contains x
    ·rw [hin] at hcon
     have hn1 : Lib.indexByte [0, 47] x < 0 := by have := of_decide_eq_false hcon.symm; omega
     clear hcon
     go_wp2_with (go_at_call 226; refine (Tryz.strings_IndexRune_ascii _ _ _ (by omega) (by omega)).mono ?_; rintro e w' ⟨rfl, hw⟩; rw [hw, hback])
     go_roundg (gk - 1)
     case measure => omega
     case rel =>
      exact ⟨i + 1, by omega, by omega, HI.out _, HB.out _, Lib.hid (HN.out.succ Hx2.out hin)⟩
    ·rw [hin] at hcon
     have hn1 : ¬ Lib.indexByte [0, 47] x < 0 := by have := of_decide_eq_true hcon.symm; omega
     have hn2 : 0 ≤ Lib.indexByte [0, 47] x := by omega
     clear hcon
     have HR := Lib.hid (Lib.indexAny_hit HN.out Hx2.out hin)
     go_wp2_with (go_at_call 226; refine (Tryz.strings_IndexRune_ascii _ _ _ (by omega) (by omega)).mono ?_; rintro e w' ⟨rfl, hw⟩; rw [hw, hback])
     go_ret
     exact ⟨by rw [HR.out]; rfl, HB.out _⟩
   ·have hspan := Lib.hid (noAny_span s i hlt (by omega) HN.out (Utf8.decode s i).2 (Nat.le_refl _))
    have hdh := decode_high s i hlt (by omega)
    have hdl := decode_le s i
    clear Hx
    generalize Utf8.decode s i = p at *
    obtain ⟨r, n⟩ := p
    simp only at hnx hspan hdh hdl
    have hn1 : 1 ≤ n := hdh.2
    have hr1 : 128 ≤ r := hdh.1
    clear hdh ha
    go_wp2_with (go_at_call 226; refine (rune_high _ _ (by omega)).mono ?_; rintro e w5 ⟨rfl, hb5⟩)
    go_roundg (gk - n)
    case measure => have := hspan.out.1; omega
    case rel =>
     refine ⟨i + n, hspan.out.1, by have := hspan.out.1; omega, ?_, (HB.out _).trans (hb5.mono (by rw [HS.out]; omega)), Lib.hid hspan.out.2⟩
     rw [hb5.block _ (by rw [HS.out]; exact hklt)]
     exact HI.out _
  ·have hie : i = s.size := by omega
   have hnx := fun ty => Lib.run_next_end_at (P := Tryz.prog) wr w.heap.size s i ty hk hlt
   have HR := Lib.hid (Lib.indexAny_none (s := s.data.toList) (chars := [0, 47]) (by rw [← Lib.size_eq, ← hie]; exact HN.out))
   clear hie
   go_wp2_with fail
   go_ret
   exact ⟨by rw [HR.out]; rfl, hb⟩
theorem info66 : (Tryz.prog.info? 260).map (fun i => (i.zero, i.size)) = some (some (.agg (Array.replicate 256 (.bool false))), 256) := by kernel_rfl
theorem any_any (s : ByteArray) (w : World) (hs : s.size ≤ 60) : Calls Tryz.prog 222 #[.string s, .string ⟨#[0, 47]⟩] w (AnyE w (Lib.indexAny s.data.toList [0, 47])) := by
 by_cases h8 : s.size ≤ 8
 ·exact any_short s w h8
 ·refine (Tryz.strings_IndexAny_long (zero_of_info info66).1 s ⟨#[0, 47]⟩ w (by decide) (by omega) (by omega) (by decide) ?_).mono ?_
  ·intro j b hj
   match j, hj with
   | 0, hj => simp at hj; subst hj; decide
   | 1, hj => simp at hj; subst hj; decide
  ·rintro e w' ⟨he, hw⟩
   exact ⟨he, by rw [hw]; exact ((Below.refl _ _).alloc (Nat.le_refl _) _).alloc (by simp) _⟩
theorem indexAny_iff (L : Bs) : (0 ≤ Lib.indexAny L [0, 47]) ↔ ((0 : UInt8) ∈ L ∨ (47 : UInt8) ∈ L) := by
 induction L with
 | nil => simp [Lib.indexAny]
 | cons b l ih =>
  unfold Lib.indexAny
  by_cases hb : b = 0 ∨ b = 47
  ·have hc : ([0, 47] : List UInt8).contains b = true := by rcases hb with rfl | rfl <;> decide
   rw [if_pos hc]
   refine ⟨fun _ => ?_, fun _ => Int.le_refl _⟩
   rcases hb with rfl | rfl
   ·exact .inl (by simp)
   ·exact .inr (by simp)
  ·have hc : ([0, 47] : List UInt8).contains b = false := by
    rw [Bool.eq_false_iff]
    intro h
    simp at h
    exact hb h
   rw [hc, if_neg (by decide)]
   have hge := Lib.indexAny_ge [0, 47] l
   have h1 : (0 : UInt8) ≠ b := fun e => hb (.inl e.symm)
   have h2 : (47 : UInt8) ≠ b := fun e => hb (.inr e.symm)
   rw [List.mem_cons, List.mem_cons]
   simp only [h1, h2, false_or]
   rw [← ih]
   split
   ·rename_i h
    rw [beq_iff_eq] at h
    omega
   ·rename_i h
    rw [beq_iff_eq] at h
    omega
def nerr (L : Bs) : Int := if L = [] then 2 else if 60 < L.length then 36 else if (0 : UInt8) ∈ L ∨ (47 : UInt8) ∈ L then 22 else 0
def NameE (w : World) (L : Bs) (e : Ending) (w' : World) : Prop := e = .returned (.int .i64 (nerr L)) ∧ Below w.heap.size w w'
theorem has_any (s : ByteArray) (w : World) (hs : s.size ≤ 60) (b : Bool) (hb : decide (0 ≤ Lib.indexAny s.data.toList [0, 47]) = b) : Calls Tryz.prog 212 #[.string s, .string ⟨#[0, 47]⟩] w fun e w' => e = .returned (.bool b) ∧ Below w.heap.size w w' := by
 have HA := any_any s w hs
 generalize Lib.indexAny s.data.toList [0, 47] = n at *
 go_enter Tryz.func212, Tryz.ntmps212
 go_wp2_with (go_at_call 222; refine HA.mono ?_; rintro e w' ⟨rfl, hw⟩)
 go_ret
 exact ⟨by rw [← hb]; rfl, hw⟩
theorem name_any (s : ByteArray) (w : World) (hm : s.size ≤ 9223372036854775807) : Calls Tryz.prog 201 #[.string s] w (NameE w s.data.toList) := by
 by_cases h0 : s.data.toList = []
 ·have e : s = ⟨#[]⟩ := by rw [← Lib.mk_data s, h0]
  subst e
  go_enter Tryz.func201, Tryz.ntmps201
  go_wp2
  go_ret
  exact ⟨rfl, Below.refl _ _⟩
 ·have hne : s.toList.isEmpty = false := by
   rw [Lib.toList_data]
   cases h' : s.data.toList with
   | nil => exact absurd h' h0
   | cons _ _ => rfl
  by_cases h60 : 60 < s.size
  ·have HR := Lib.hid (show nerr s.data.toList = 36 by unfold nerr; rw [if_neg h0, if_pos (by rw [← Lib.size_eq]; exact h60)])
   clear h0
   go_enter Tryz.func201, Tryz.ntmps201
   go_wp2
   go_ret
   exact ⟨by rw [HR.out]; rfl, Below.refl _ _⟩
  ·by_cases hbad : (0 : UInt8) ∈ s.data.toList ∨ (47 : UInt8) ∈ s.data.toList
   ·have HR := Lib.hid (show nerr s.data.toList = 22 by unfold nerr; rw [if_neg h0, if_neg (by rw [← Lib.size_eq]; exact h60), if_pos hbad])
    have HC := has_any s w (by omega) true (decide_eq_true ((indexAny_iff _).2 hbad))
    clear h0 hbad
    go_enter Tryz.func201, Tryz.ntmps201
    go_wp2_with (go_at_call 212; refine HC.mono ?_; rintro e w' ⟨rfl, hw⟩)
    go_ret
    exact ⟨by rw [HR.out]; rfl, hw⟩
   ·have HR := Lib.hid (show nerr s.data.toList = 0 by unfold nerr; rw [if_neg h0, if_neg (by rw [← Lib.size_eq]; exact h60), if_neg hbad])
    have HC := has_any s w (by omega) false (decide_eq_false (fun h => hbad ((indexAny_iff _).1 h)))
    clear h0 hbad
    go_enter Tryz.func201, Tryz.ntmps201
    go_wp2_with (go_at_call 212; refine HC.mono ?_; rintro e w' ⟨rfl, hw⟩)
    go_ret
    exact ⟨by rw [HR.out]; rfl, hw⟩
end Go.Proofs.YtpmpbmjjlccbbaaGreat.dn
namespace Go.Proofs.YtpmpbmjjlccbbaaGreat.dn
open Go.RowKit Go.Shelf
structure Fr (w w' : World) (Q : Nat) (o : Option Nat) : Prop where
 os : w'.os = w.os
 tape : w'.tape = w.tape
 output : w'.output = w.output
 size : w.heap.size ≤ w'.heap.size
 block : ∀ k, k < w.heap.size → k ≠ Q → o ≠ some k → w'.heap[k]? = w.heap[k]?
theorem Fr.refl (w : World) (Q : Nat) (o : Option Nat) : Fr w w Q o := ⟨rfl, rfl, rfl, Nat.le_refl _, fun _ _ _ _ => rfl⟩
theorem Fr.grown {w w' : World} {Q : Nat} {o : Option Nat} (h : w.grownBy w' o) : Fr w w' Q o := ⟨h.os, h.tape, h.output, h.size, fun k hk _ ho => h.block k hk (fun e => ho e.symm)⟩
theorem Fr.setQ (w : World) (Q : Nat) (o : Option Nat) (v : Value) : Fr w (w.setCell ⟨Q, 0, none⟩ v) Q o :=
 ⟨rfl, rfl, rfl, by simp [World.setCell], fun k _ hQ _ => by rw [Below.heap_setCell _ _ _ _ (fun e => hQ e)]⟩
theorem Fr.trans {w w1 w2 : World} {Q : Nat} {o o1 : Option Nat} (h : Fr w w1 Q o) (h' : Fr w1 w2 Q o1) (ho : ∀ k, o1 = some k → o = some k ∨ w.heap.size ≤ k) : Fr w w2 Q o :=
 ⟨h'.os.trans h.os, h'.tape.trans h.tape, h'.output.trans h.output, Nat.le_trans h.size h'.size, fun k hk hQ hk2 =>
  (h'.block k (Nat.lt_of_lt_of_le hk h.size) hQ (fun e => by rcases ho k e with e | e; exact hk2 e; omega)).trans (h.block k hk hQ hk2)⟩
theorem Fr.below {w w' : World} {Q : Nat} {o : Option Nat} (h : Below w.heap.size w w') : Fr w w' Q o := ⟨h.os, h.tape, h.output, h.size, fun k hk _ _ => h.block k hk⟩
def StepE (w : World) (D lo : Nat) (o : Option Nat) (v : Value) (L : List En) (e : Ending) (w' : World) : Prop :=
 e = .returned v ∧ ∃ o' c', Du w' D lo o' c' L ∧ (∀ G, o' = some G → o = some G ∨ w.heap.size ≤ G) ∧ Fr w w' D o
theorem stepE_same {w w' : World} {D lo c : Nat} {o : Option Nat} {v : Value} {L : List En} (h : Du w D lo o c L) (hb : Below w.heap.size w w') : StepE w D lo o v L (.returned v) w' :=
 ⟨rfl, o, c, h.below hb, fun G e => .inl e, Fr.below hb⟩
theorem new_any (w : World) (lo : Nat) (hlo : lo ≤ w.heap.size) : Calls Tryz.prog 58 #[] w (fun e w' => e = .returned (Pq w.heap.size) ∧ Du w' w.heap.size lo none 0 [] ∧ Below w.heap.size w w') := by
 have HQ := Lib.hid (show Du (w.alloc (.cells #[.slice none 0 0] 177)) w.heap.size lo none 0 [] from ⟨by simp, by simp, ⟨rfl, rfl⟩⟩)
 go_enter Tryz.func58, Tryz.ntmps58
 go_wp2_with fail
 go_ret
 exact ⟨rfl, HQ.out, below_alloc _ _⟩
def dotB (s : ByteArray) : Bool := s.toList == [46] || s.toList == [46, 46]
def serr (s : ByteArray) (v : Int) : Int := if nerr s.data.toList ≠ 0 then nerr s.data.toList else if dotB s = true ∨ v < 1 then 22 else 0
def lsetE (s : ByteArray) (v : Int) (L : List En) : List En := if serr s v = 0 then lset s v L else L
theorem ERow.setNum {w : World} {G c : Nat} {L : List En} {i : Nat} {x : En} (h : ERow w G c L) (hx : L[i]? = some x) (v : Int) : ERow (w.setCell ⟨G, i * 2 + 1, none⟩ (.int .i64 v)) G c (L.set i (x.1, v)) := by
 have hi : i < L.length := (List.getElem?_eq_some_iff.1 hx).1
 have h1 := h.1
 refine ERow.sets (vs := [.int .i64 v]) (o := i * 2 + 1) h (by simp; omega) (by intro v hv; simp at hv; subst hv; rfl) (by simpa using h1) fun X hl ht => ?_
 rw [List.length_set]
 have hxs : L[i] = x := by rw [List.getElem?_eq_getElem hi] at hx; simpa using hx
 rw [List.set_eq_take_append_cons_drop, if_pos hi, show L.take i ++ (x.1, v) :: L.drop (i + 1) = L.take i ++ [(x.1, v)] ++ L.drop (i + 1) by simp, encL_append, encL_append, ← encL_take, ← encL_drop, ← ht]
 have hXi : X[i * 2]? = some (.string x.1) := by
  have := (encL_at hx).1
  rw [← ht, List.getElem?_take_of_lt (by omega)] at this
  exact this
 have hX2 : i * 2 < X.length := by omega
 rw [List.take_take, Nat.min_eq_left (by omega)]
 apply List.ext_getElem?
 intro j
 simp only [List.getElem?_take, List.getElem?_append, List.length_take, List.length_append, List.getElem?_drop, List.length_cons, List.length_nil, encL_single, hl]
 by_cases h1 : j < i * 2
 ·rw [if_pos (show j < L.length * 2 by omega), if_pos (by omega), if_pos (by omega), if_pos (by omega), if_pos (by omega), if_pos (by omega), if_pos (by omega)]
 ·by_cases h2 : j = i * 2
  ·subst h2
   rw [if_pos (show i * 2 < L.length * 2 by omega), if_pos (by omega), if_pos (by omega), if_pos (by omega), if_pos (by omega), if_neg (by omega), hXi]
   rw [show i * 2 - min (i * 2) (c * 2) = 0 by omega]; rfl
  ·by_cases h3 : j = i * 2 + 1
   ·subst h3
    rw [if_pos (show i * 2 + 1 < L.length * 2 by omega), if_pos (by omega), if_neg (by omega), if_pos (by omega), if_neg (by omega)]
    rw [show i * 2 + 1 - min (i * 2 + 1) (c * 2) = 0 by omega, show i * 2 + 1 - min (i * 2) (c * 2) = 1 by omega]; rfl
   ·by_cases h4 : j < L.length * 2
    ·rw [if_pos h4, if_neg (by omega), if_neg (by omega)]
     rw [if_pos (by omega)]
     congr 1
     omega
    ·rw [if_neg h4, if_neg (by omega)]
     rw [if_neg (by omega)]
end Go.Proofs.YtpmpbmjjlccbbaaGreat.dn
