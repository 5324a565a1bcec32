/- An act looked at, and played. -/
import Derived.Test.YtpnnonphagddgaaActs
namespace Go.Proofs.Ytpnnonphagddgaa
open Go.RowKit
set_option linter.unusedVariables false
set_option linter.unusedSimpArgs false

abbrev ActV (x : Act5) : Value := .agg #[.int .i64 x.kind, .int .i64 x.who, .int .i64 x.off, .int .i64 x.num, .slice x.A x.len x.cap]
def largeB (x : Act5) : Bool := decide (4096 < x.len) || decide (131072 < x.num)
def RetB (w : World) (b : Bool) (e : Ending) (w' : World) : Prop := e = .returned (.bool b) ∧ Below w.heap.size w w'
set_option maxHeartbeats 1000000 in
theorem large_any (x : Act5) (w : World) (hl : x.len ≤ maxLen) : Calls Try.prog 14 #[ActV x] w (RetB w (largeB x)) := by
  obtain ⟨k, wh, off, n, A, len, c, f⟩ := x
  simp only at hl
  have hlen : (len : Int) ≤ 9223372036854775807 := by unfold maxLen at hl; omega
  by_cases h1 : 4096 < (len : Int)
  · have HE := Lib.hid (show largeB ⟨k, wh, off, n, A, len, c, f⟩ = true by unfold largeB; simp; omega)
    generalize largeB ⟨k, wh, off, n, A, len, c, f⟩ = r at HE ⊢
    have hg : decide (4096 < len) = true := by simp; omega
    clear hl
    go_enter Try.func14, Try.ntmps14
    go_wp2
    go_ret
    exact ⟨by rw [HE.out]; rfl, below_one _ _⟩
  · have hg : decide (4096 < len) = false := by simp; omega
    by_cases h2 : 131072 < n
    · have HE := Lib.hid (show largeB ⟨k, wh, off, n, A, len, c, f⟩ = true by unfold largeB; simp; omega)
      generalize largeB ⟨k, wh, off, n, A, len, c, f⟩ = r at HE ⊢
      clear hl
      go_enter Try.func14, Try.ntmps14
      go_wp2
      go_ret
      exact ⟨by rw [HE.out]; rfl, below_one _ _⟩
    · have HE := Lib.hid (show largeB ⟨k, wh, off, n, A, len, c, f⟩ = false by unfold largeB; simp; omega)
      generalize largeB ⟨k, wh, off, n, A, len, c, f⟩ = r at HE ⊢
      have hg2 : decide (131072 < n) = false := by simp; omega
      clear hl
      go_enter Try.func14, Try.ntmps14
      go_wp2
      go_ret
      exact ⟨by rw [HE.out]; rfl, below_one _ _⟩

def PlayE (w : World) (S room K : Nat) (B M : Nat → Nat) (b : Nat → AB) (k : Nat) (e : Ending) (w' : World) : Prop :=
  e = .returned (.tuple #[]) ∧ ∃ b', Sys w' S room K B M (updF b k b') ∧ Only (FP S K B M) w w'
theorem updF_id {α : Type} (f : Nat → α) (k : Nat) : updF f k (f k) = f := by
  funext x; unfold updF; split
  · next h => rw [h]
  · rfl
theorem Sys.same {w w' : World} {S room K : Nat} {B M : Nat → Nat} {b : Nat → AB} (k : Nat) (h : Sys w S room K B M b) (hb : Below w.heap.size w w') : PlayE w S room K B M b k (.returned (.tuple #[])) w' :=
  ⟨rfl, b k, by rw [updF_id]; exact h.below hb, Only.of_below hb⟩
set_option maxHeartbeats 1000000 in
theorem play_any {w : World} {S room K : Nat} {B M : Nat → Nat} {b : Nat → AB} (h : Sys w S room K B M b) {k : Nat} (hk : k < K) (x : Act5) {X : Nat} (hX : X ≤ w.heap.size) (hF : ∀ y, FP S K B M y → X ≤ y) (hs : Src w X x.A x.len x.cap x.f) :
    Calls Try.prog 30 #[Pq S, Pq (B k), ActV x] w (PlayE w S room K B M b k) := by
  obtain ⟨kd, wh, off, n, A, len, c, f⟩ := x
  simp only at hs
  have hb1 := below_one w (.cells #[.int .i64 kd, .int .i64 wh, .int .i64 off, .int .i64 n, .slice A len c] 38)
  have h' := h.below hb1
  have hs' := hs.below (hb1.mono hX)
  have HW := Lib.hid (sys_write h' hk off A len c f (hs'.inn (Nat.le_trans hX hb1.size) hF) hs.1.1 hs.1.2)
  have HR := Lib.hid (sys_read h' hk off n)
  have HC := Lib.hid (sys_cut h' hk off)
  have HFr := Lib.hid (sys_free h' hk)
  have HS := Lib.hid h'
  have HB := Lib.hid hb1
  have HFIN := Lib.hid (show ∀ w' b', Sys w' S room K B M (updF b k b') → Only (FP S K B M) (w.alloc (.cells #[.int .i64 kd, .int .i64 wh, .int .i64 off, .int .i64 n, .slice A len c] 38)) w' → PlayE w S room K B M b k (.returned (.tuple #[])) w' from
    fun w' b' hs ho => ⟨rfl, b', hs, (Only.of_below hb1).trans ho⟩)
  have HSAME := Lib.hid (show ∀ w', Below (w.alloc (.cells #[.int .i64 kd, .int .i64 wh, .int .i64 off, .int .i64 n, .slice A len c] 38)).heap.size (w.alloc (.cells #[.int .i64 kd, .int .i64 wh, .int .i64 off, .int .i64 n, .slice A len c] 38)) w' → PlayE w S room K B M b k (.returned (.tuple #[])) w' from
    fun w' hb => h.same k (below_step hb1 (hb.mono hb1.size)))
  clear h hs h' hs' hb1 hX hF hk
  by_cases h0 : kd = 0
  · subst h0
    go_enter Try.func30, Try.ntmps30
    go_wp2_with fail
    refine HW.out.mono ?_
    rintro e w2 ⟨p, err, rfl, -, hs2, ho2⟩
    have HF2 := Lib.hid (HFIN.out _ _ hs2 ho2)
    clear hs2 ho2
    go_wp2_with fail
    go_end0
    exact HF2.out
  have b0 : (kd == 0) = false := by simpa using h0
  clear h0
  by_cases h1 : kd = 1
  · subst h1
    go_enter Try.func30, Try.ntmps30
    go_wp2_with fail
    refine HR.out.mono ?_
    rintro e w2 ⟨A2, c2, rfl, -, hb2⟩
    have HF2 := Lib.hid (HSAME.out _ hb2)
    clear hb2
    go_wp2_with fail
    go_end0
    exact HF2.out
  have b1 : (kd == 1) = false := by simpa using h1
  clear h1
  by_cases h2 : kd = 2
  · subst h2
    go_enter Try.func30, Try.ntmps30
    go_wp2_with fail
    refine HC.out.mono ?_
    rintro e w2 ⟨rfl, hs2, ho2⟩
    have HF2 := Lib.hid (HFIN.out _ _ hs2 ho2)
    clear hs2 ho2
    go_wp2_with fail
    go_end0
    exact HF2.out
  have b2 : (kd == 2) = false := by simpa using h2
  clear h2
  by_cases h3 : kd = 3
  · subst h3
    go_enter Try.func30, Try.ntmps30
    go_wp2_with fail
    refine HFr.out.mono ?_
    rintro e w2 ⟨rfl, hs2, ho2⟩
    have HF2 := Lib.hid (HFIN.out _ _ hs2 ho2)
    clear hs2 ho2
    go_wp2_with fail
    go_end0
    exact HF2.out
  have b3 : (kd == 3) = false := by simpa using h3
  clear h3
  have HF2 := Lib.hid (HSAME.out _ (Below.refl _ _))
  go_enter Try.func30, Try.ntmps30
  go_wp2
  go_end0
  exact HF2.out
end Go.Proofs.Ytpnnonphagddgaa
