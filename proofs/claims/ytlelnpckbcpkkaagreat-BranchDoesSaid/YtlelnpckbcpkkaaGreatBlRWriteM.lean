/- The document's own Write: what its loop holds. -/
import Derived.Test.YtlelnpckbcpkkaaGreatBlRGrow
namespace Go.Proofs.YtlelnpckbcpkkaaGreat.bl
open Go.RowKit
set_option linter.unusedVariables false
set_option linter.unusedSimpArgs false


theorem AB_ext {a b : AB} (h1 : a.size = b.size) (h2 : ∀ k, a.th k = b.th k) (h3 : ∀ i, a.dat i = b.dat i) : a = b := by
  obtain ⟨n, t, d⟩ := a
  obtain ⟨m, u, e⟩ := b
  obtain rfl : n = m := h1
  obtain rfl : t = u := funext h2
  obtain rfl : d = e := funext h3
  rfl
def RWriteE (w : World) (lo C RS room used : Nat) (G : Nat → Prop) (b : AB) (off : Int) (len : Nat) (f : Nat → UInt8) (e : Ending) (w' : World) : Prop :=
  ∃ (p : Nat) (err : Int) (vB vT : Value) (T : Nat), e = .returned (.tuple #[.int .i64 (p : Int), .int .i64 err]) ∧ WR b used room off len p err ∧ RS2 w w' lo C RS room (used + (wr b off p f).n - b.n) G vB vT (wr b off p f) T
/-- What the document's loop holds behind p bytes. -/
structure RMid (w wr : World) (lo C RS room used s p N : Nat) (G : Nat → Prop) (vB vT : Value) (b : AB) (f : Nat → UInt8) (T : Nat) : Prop where
  r : RS2 w wr lo C RS room (used + N - b.n) G vB vT (wrB b s p f) T
  n : N = cnt 4096 (thW b s (s + p))
  le : b.n ≤ N
  ok : ∀ q, q < p → okW b used room s q
  rm : used + N - b.n ≤ room
theorem cnt_add {N k : Nat} {th : Nat → Bool} (hk : k < N) (ht : th k = false) : cnt N (updB th k true) = cnt N th + 1 := by
  induction N with
  | zero => omega
  | succ N ih =>
    rw [cnt_succ, cnt_succ]
    by_cases e : k = N
    · subst e
      have h1 : cnt k (updB th k true) = cnt k th := by
        unfold cnt
        congr 1
        apply List.filter_congr
        intro x hx
        unfold updB
        rw [if_neg (by have := List.mem_range.1 hx; omega)]
      rw [h1, ht]
      unfold updB
      simp
    · have h2 : updB th k true N = th N := by unfold updB; rw [if_neg (fun h => e h.symm)]
      rw [ih (by omega), h2]
      omega
theorem RMid.fin {w wr : World} {lo C RS room used s p N len TT : Nat} {G : Nat → Prop} {vB vT : Value} {b : AB} {off : Int} {f : Nat → UInt8} {T : Nat} (h : RMid w wr lo C RS room used s p N G vB vT b f T)
    (ho : off = (s : Int)) (hs : off < 65536) (hl : 0 < len) (hT : TT = min len (65536 - s)) (hst : IsStop b used room s TT p) : RWriteE w lo C RS room used G b off len f (.returned (.tuple #[.int .i64 (p : Int), .int .i64 (if p = 0 then 28 else 0)])) wr := by
  have hw : Go.Proofs.YtlelnpckbcpkkaaGreat.bl.wr b off p f = wrB b s p f := by unfold Go.Proofs.YtlelnpckbcpkkaaGreat.bl.wr; rw [ho, Int.toNat_natCast]
  refine ⟨p, _, vB, vT, T, rfl, Or.inr (Or.inr (Or.inr ⟨by omega, hs, hl, ?_, rfl⟩)), ?_⟩
  · rw [ho, Int.toNat_natCast, ← hT]; exact hst
  · rw [hw, show (wrB b s p f).n = N from h.n.symm]; exact h.r

end Go.Proofs.YtlelnpckbcpkkaaGreat.bl
