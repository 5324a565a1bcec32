/- One body and its store. -/
import Derived.Test.YtpnnonphagddgaaPlay
namespace Go.Proofs.Ytpnnonphagddgaa
open Go.RowKit
set_option linter.unusedVariables false
set_option linter.unusedSimpArgs false

theorem Sys.congr {w : World} {S room K : Nat} {B M B' M' : Nat → Nat} {b b' : Nat → AB} (h : Sys w S room K B M b) (hc : ∀ k, k < K → B k = B' k ∧ M k = M' k ∧ b k = b' k) : Sys w S room K B' M' b' := by
  have ht : tot K b = tot K b' := tot_congr fun k hk => (hc k hk).2.2
  refine ⟨by rw [← ht]; exact h.s, by rw [← ht]; exact h.le, h.room, fun k hk => ?_, fun k hk => ?_, fun j k hj hk => ?_⟩
  · obtain ⟨e1, e2, e3⟩ := hc k hk
    rw [← e1, ← e2, ← e3]; exact h.bod k hk
  · obtain ⟨e1, e2, e3⟩ := hc k hk
    rw [← e1, ← e2]; exact h.sB k hk
  · obtain ⟨e1, e2, e3⟩ := hc k hk
    obtain ⟨d1, d2, d3⟩ := hc j hj
    rw [← e1, ← e2, ← d1, ← d2]; exact h.sep j k hj hk
def One (w : World) (S room P Q : Nat) (b : AB) : Prop := Sys w S room 1 (fun _ => P) (fun _ => Q) (fun _ => b)
def F1 (S P Q : Nat) : Nat → Prop := FP S 1 (fun _ => P) (fun _ => Q)
theorem tot_one (b : Nat → AB) : tot 1 b = (b 0).n := by unfold tot tot; exact Nat.zero_add _
theorem One.of {w : World} {S room P Q : Nat} {b b' : AB} (h : Sys w S room 1 (fun _ => P) (fun _ => Q) (updF (fun _ => b) 0 b')) : One w S room P Q b' :=
  Sys.congr h fun k hk => ⟨rfl, rfl, by rw [show k = 0 from by omega]; exact updF_same _ _ _⟩
theorem F1_or {S P Q x : Nat} : F1 S P Q x ↔ x = S ∨ x = P ∨ x = Q := by
  unfold F1 FP
  constructor
  · rintro (h | ⟨k, _, h⟩)
    · exact Or.inl h
    · exact Or.inr h
  · rintro (h | h)
    · exact Or.inl h
    · exact Or.inr ⟨0, by omega, h⟩
theorem One.below {w w' : World} {S room P Q : Nat} {b : AB} (h : One w S room P Q b) (hb : Below w.heap.size w w') : One w' S room P Q b := Sys.below h hb
theorem one_new {w w1 : World} {room : Nat} (hr : room ≤ 65536) (h1 : w1 = w.alloc (.cells #[.int .i64 (room : Int), .int .i64 0] 65)) : Sys w1 w.heap.size room 0 (fun _ => 0) (fun _ => 0) (fun _ => AB.empty) := by
  subst h1; exact sys_new hr
theorem one_body {w : World} {S room : Nat} (h : Sys w S room 0 (fun _ => 0) (fun _ => 0) (fun _ => AB.empty)) :
    Calls Try.prog 13 #[Pq S] w (fun e w' => e = .returned (Pq (w.heap.size + 1)) ∧ One w' S room (w.heap.size + 1) w.heap.size AB.empty ∧ Below w.heap.size w w') :=
  (sys_body h).mono fun _ _ ⟨he, hs, hb⟩ => ⟨he, Sys.congr hs fun k hk => by rw [show k = 0 from by omega]; exact ⟨updF_same _ _ _, updF_same _ _ _, updF_same _ _ _⟩, hb⟩
theorem one_write {w : World} {S room P Q : Nat} {b : AB} (h : One w S room P Q b) (off : Int) (A : Option Addr) (len dc : Nat) (f : Nat → UInt8) (hA : BytesIn w (F1 S P Q) A len f) (hlc : len ≤ dc) (hdc : dc ≤ maxLen) :
    Calls Try.prog 15 #[Pq S, Pq P, .int .i64 off, .slice A len dc] w (fun e w' => ∃ (p : Nat) (err : Int), e = .returned (.tuple #[.int .i64 (p : Int), .int .i64 err]) ∧ WR b b.n room off len p err ∧ One w' S room P Q (wr b off p f) ∧ Only (F1 S P Q) w w') :=
  (sys_write h (k := 0) (by omega) off A len dc f hA hlc hdc).mono fun _ _ ⟨p, err, he, hw, hs, ho⟩ => ⟨p, err, he, by rw [tot_one] at hw; exact hw, One.of hs, ho⟩
theorem one_cut {w : World} {S room P Q : Nat} {b : AB} (h : One w S room P Q b) (off : Int) :
    Calls Try.prog 19 #[Pq S, Pq P, .int .i64 off] w (fun e w' => e = .returned (.int .i64 (cutR off)) ∧ One w' S room P Q (cut b off) ∧ Only (F1 S P Q) w w') :=
  (sys_cut h (k := 0) (by omega) off).mono fun _ _ ⟨he, hs, ho⟩ => ⟨he, One.of hs, ho⟩
theorem one_free {w : World} {S room P Q : Nat} {b : AB} (h : One w S room P Q b) :
    Calls Try.prog 21 #[Pq S, Pq P] w (fun e w' => e = .returned (.tuple #[]) ∧ One w' S room P Q (cut b 0) ∧ Only (F1 S P Q) w w') :=
  (sys_free h (k := 0) (by omega)).mono fun _ _ ⟨he, hs, ho⟩ => ⟨he, One.of hs, ho⟩
theorem one_read {w : World} {S room P Q : Nat} {b : AB} (h : One w S room P Q b) (off n : Int) : Calls Try.prog 17 #[Pq S, Pq P, .int .i64 off, .int .i64 n] w (ReadE w b off n) := sys_read h (k := 0) (by omega) off n
theorem one_holes {w : World} {S room P Q : Nat} {b : AB} (h : One w S room P Q b) : Calls Try.prog 28 #[Pq P] w (HolesE w (holesL ((b.size + 15) / 16) b.th)) := sys_holes h (k := 0) (by omega)
theorem one_size {w : World} {S room P Q : Nat} {b : AB} (h : One w S room P Q b) : Calls Try.prog 24 #[Pq P] w (fun e w' => e = .returned (.int .i64 (b.size : Int)) ∧ w = w') := sys_size h (k := 0) (by omega)
theorem one_chunks {w : World} {S room P Q : Nat} {b : AB} (h : One w S room P Q b) : Calls Try.prog 25 #[Pq P] w (fun e w' => e = .returned (.int .i64 (b.n : Int)) ∧ w = w') := sys_chunks h (k := 0) (by omega)
theorem one_used {w : World} {S room P Q : Nat} {b : AB} (h : One w S room P Q b) : Calls Try.prog 22 #[Pq S] w (fun e w' => e = .returned (.int .i64 (b.n : Int)) ∧ w = w') := by
  have := sys_used h; rw [tot_one] at this; exact this
theorem one_room {w : World} {S room P Q : Nat} {b : AB} (h : One w S room P Q b) : Calls Try.prog 23 #[Pq S] w (fun e w' => e = .returned (.int .i64 (room : Int)) ∧ w = w') := sys_room h
theorem one_play {w : World} {S room P Q : Nat} {b : AB} (h : One w S room P Q b) (x : Act5) {X : Nat} (hX : X ≤ w.heap.size) (hF : ∀ y, F1 S P Q y → X ≤ y) (hs : Src w X x.A x.len x.cap x.f) :
    Calls Try.prog 30 #[Pq S, Pq P, ActV x] w (fun e w' => e = .returned (.tuple #[]) ∧ ∃ b', One w' S room P Q b' ∧ Only (F1 S P Q) w w') :=
  (play_any h (k := 0) (by omega) x hX hF hs).mono fun _ _ ⟨he, b', hs, ho⟩ => ⟨he, b', One.of hs, ho⟩

/-- The document's examples. -/
def exF : Nat → UInt8 := fun i => if i = 0 then 97 else 98
def ex1 : AB := wrB AB.empty 20 2 exF
def ex2 : AB := wrB ex1 30 18 (fun _ => 0)
instance (b : AB) (used room s q : Nat) : Decidable (okW b used room s q) := by unfold okW; infer_instance
theorem ex_n0 : AB.empty.n = 0 := by decide +kernel
theorem ex_n1 : ex1.n = 1 := by decide +kernel
theorem ex_n2 : ex2.n = 2 := by decide +kernel
theorem ex_s1 : IsStop AB.empty 0 2 20 2 2 := ⟨by decide, by decide +kernel, Or.inl rfl⟩
theorem ex_s2 : IsStop ex1 1 2 30 40 18 := ⟨by decide, by decide +kernel, Or.inr (by decide +kernel)⟩
theorem ex_s3 : IsStop ex2 2 2 0 1 0 := ⟨by decide, fun q h => absurd h (Nat.not_lt_zero _), Or.inr (by decide +kernel)⟩
theorem ex_z1 : ex1.size = 22 := by decide +kernel
theorem ex_z2 : ex2.size = 48 := by decide +kernel
theorem ex_h1 : holesL ((ex1.size + 15) / 16) ex1.th = [0] := by decide +kernel
theorem ex_r1 : readR ex1 18 9 = (0, 4) := by decide +kernel
theorem ex_t1 : strF 4 (fun j => ex1.dat ((18 : Int).toNat + j)) = ⟨#[0, 0, 97, 98]⟩ := by decide +kernel
end Go.Proofs.Ytpnnonphagddgaa
