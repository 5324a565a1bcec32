/- Write: what its loop holds, and its ends. -/
import Derived.Test.YtpnnonphagddgaaWrite
namespace Go.Proofs.Ytpnnonphagddgaa
open Go.RowKit
set_option linter.unusedVariables false
set_option linter.unusedSimpArgs false

theorem put_at (S B M n N k T s p sb so dc len : Nat) (F : Nat → Prop) (th : Nat → Bool) (dat f : Nat → UInt8) (w : World) (hb : BodC w S B M n) (hM : MapAt w M th dat N) (hk : (s + p) / 16 = k) (ht : th k = true)
    (ha : s + p ≤ 65536) (hs : BytesIn w F (some ⟨sb, so, none⟩) len f) (hp : p < T) (hT : T ≤ len) (off : Int) (ho : off = (s : Int)) :
    Calls Try.prog 33 #[Pq B, .int .i64 (off + (p : Int)), .slice (some ⟨sb, so + p, none⟩) (T - p) (dc - p)] w (fun e w' => ∃ m : Nat, e = .returned (.int .i64 (m : Int)) ∧ 0 < m ∧ p + m ≤ T ∧ s + p + m ≤ 16 * k + 16 ∧
      MapAt w' M th (over dat (s + p) m (fun i => f (p + i))) N ∧ Only (· = M) w w') := by
  have h := put_any S B M n N (s + p) k ((s + p) % 16) (T - p) (dc - p) (some ⟨sb, so + p, none⟩) th dat (fun i => f (p + i)) w hb hM (by omega) (by omega) ha (hs.part hT) (by omega)
  rw [show off + (p : Int) = ((s + p : Nat) : Int) from by omega]
  refine h.mono fun e w' ⟨he, h1, h2⟩ => ⟨_, he, by omega, by omega, by omega, ?_, h2⟩
  rw [addN, if_pos ht] at h1
  exact h1.ext (fun x => by unfold updB; by_cases e : x = k <;> simp [e, ht]) (fun _ => rfl)

/-- What the loop holds at place p. -/
structure Mid (w wr : World) (S B M room used s p N : Nat) (b : AB) (f : Nat → UInt8) : Prop where
  c : BodC wr S B M b.size
  m : MapAt wr M (thW b s (s + p)) (over b.dat s p f) N
  t : StoC wr S room (used + N - b.n)
  o : Only (fp S B M) w wr
  n : b.n ≤ N
  r : used + N - b.n ≤ room
theorem Mid.num {w wr : World} {S B M room used s p N : Nat} {b : AB} {f : Nat → UInt8} (h : Mid w wr S B M room used s p N b f) (ok : b.Ok) (hs : s + p ≤ 65536) : N = cnt 4096 (thW b s (s + p)) :=
  h.m.cnt fun _ hx => thW_lt ok hs hx
theorem thW_n (b : AB) (s p : Nat) (f : Nat → UInt8) : (wrB b s p f).n = cnt 4096 (thW b s (s + p)) := rfl

theorem Mid.below {w wr w' : World} {S B M room used s p N : Nat} {b : AB} {f : Nat → UInt8} (h : Mid w wr S B M room used s p N b f) (hb : Below wr.heap.size wr w') : Mid w w' S B M room used s p N b f :=
  ⟨h.c.below (hb.block B (World.block_lt_of_cell? wr _ h.c.c0)), h.m.of_block (hb.block M h.m.lt), h.t.below (hb.block S (World.block_lt_of_cell? wr _ h.t.c0)), h.o.trans (Only.of_below hb), h.n, h.r⟩
theorem okW_step {wr : World} {M N : Nat} {b : AB} {used room s p m k : Nat} {f : Nat → UInt8} (ok : b.Ok) (hM : MapAt wr M (thW b s (s + p)) (over b.dat s p f) N) (hsp : s + p ≤ 65536)
    (h : ∀ q, q < p → okW b used room s q) (hk : (s + p) / 16 = k) (hm : s + p + m ≤ 16 * k + 16) (hp : used + N - b.n < room ∨ thW b s (s + p) k = true) : ∀ q, q < p + m → okW b used room s q := by
  intro q hq
  have hN := hM.cnt (N := 4096) fun _ hx => thW_lt ok hsp hx
  by_cases h1 : q < p
  · exact h q h1
  · by_cases h2 : q = p
    · subst h2
      unfold okW usedW
      rw [hk, ← hN]
      exact hp.symm
    · refine Or.inl ?_
      rw [show (s + q) / 16 = k from by omega]
      unfold thW
      have : s < s + q ∧ s < 16 * k + 16 ∧ 16 * k < s + q := by omega
      simp only [decide_eq_true this, Bool.or_true]
theorem okW_not {wr : World} {M N : Nat} {b : AB} {used room s p k : Nat} {f : Nat → UInt8} (ok : b.Ok) (hM : MapAt wr M (thW b s (s + p)) (over b.dat s p f) N) (hsp : s + p ≤ 65536)
    (hk : (s + p) / 16 = k) (ht : thW b s (s + p) k = false) (hu : ¬ used + N - b.n < room) : ¬ okW b used room s p := by
  have hN := hM.cnt (N := 4096) fun _ hx => thW_lt ok hsp hx
  unfold okW usedW
  rw [hk, ← hN]
  rintro (h | h)
  · rw [ht] at h; cases h
  · exact hu h
theorem fin0 {w W : World} {S B M room used s T N len : Nat} {b : AB} {off : Int} {f : Nat → UInt8} (hb : Bod w S B M b) (hs : StoC w S room used) (hur : b.n ≤ used ∧ used ≤ room ∧ room ≤ 65536) (hT : 0 < len ∧ T = min len (65536 - s)) (ho : off = (s : Int))
    (he : IsStop b used room s T 0) (hm : Mid w W S B M room used s 0 N b f) (hs3 : off < 65536 := by omega) : WriteE w S B M room used b off len f (.returned (.tuple #[.int .i64 0, .int .i64 28])) W := by
  subst ho
  have hw : wr b (s : Int) 0 f = b := wrB_zero _ _ _
  have hm2 : MapAt W M b.th b.dat N := hm.m.ext (fun x => (thW_self b s x).symm) (fun i => (over_self b.dat f s i).symm)
  have hbW : Bod W S B M b := Bod.of hm.c hm2 hb.ok
  have hN : N = b.n := hm2.cnt (N := 4096) fun k hk => by have h1 := hb.ok.th k hk; have h2 := hb.ok.size; omega
  have hmt := hm.t
  rw [hN] at hmt
  refine ⟨0, 28, rfl, Or.inr (Or.inr (Or.inr ⟨by omega, hs3, hT.1, ?_, rfl⟩)), by rw [hw]; omega, ?_⟩
  · rw [Int.toNat_natCast, ← hT.2]; exact he
  · rw [hw]
    exact ⟨hmt, hbW, hm.o⟩
theorem fin1 {w W : World} {S B M room used s T N len p : Nat} {b : AB} {off : Int} {f : Nat → UInt8} (hb : Bod w S B M b) (hne : S ≠ B ∧ S ≠ M ∧ B ≠ M) (hur : b.n ≤ used ∧ used ≤ room ∧ room ≤ 65536) (hT : 0 < len ∧ T = min len (65536 - s)) (ho : off = (s : Int))
    (hT2 : s + T ≤ 65536) (he : IsStop b used room s T p) (hm : Mid w W S B M room used s p N b f) (hp : ¬ p = 0) (hs3 : off < 65536 := by omega) :
    (b.size ≤ s + p → WriteE w S B M room used b off len f (.returned (.tuple #[.int .i64 (p : Int), .int .i64 0])) (W.setCell ⟨B, 1, none⟩ (.int .i64 (off + (p : Int))))) ∧
    (s + p ≤ b.size → WriteE w S B M room used b off len f (.returned (.tuple #[.int .i64 (p : Int), .int .i64 0])) (W.setCell ⟨B, 1, none⟩ (.int .i64 (b.size : Int)))) := by
  subst ho
  have hle := he.le
  have hN := hm.num hb.ok (by omega)
  have hwn : (wrB b s p f).n = N := by rw [thW_n, hN]
  have main : ∀ u : Nat, u = max b.size (s + p) → WriteE w S B M room used b (s : Int) len f (.returned (.tuple #[.int .i64 (p : Int), .int .i64 0])) (W.setCell ⟨B, 1, none⟩ (.int .i64 (u : Int))) := by
    intro u hu
    have hw : wr b (s : Int) p f = wrB b s p f := by unfold wr; rw [Int.toNat_natCast]
    have hsz : (wrB b s p f).size = u := by unfold wrB; dsimp only; rw [if_neg hp, hu]
    refine ⟨p, 0, rfl, Or.inr (Or.inr (Or.inr ⟨by omega, hs3, hT.1, ?_, by rw [if_neg hp]⟩)), ?_, ?_⟩
    · rw [Int.toNat_natCast, ← hT.2]; exact he
    · rw [hw, hwn]; exact hm.r
    · rw [hw]
      refine ⟨?_, Bod.of (N := N) ?_ ?_ (wrB_ok hb.ok (by omega) f), hm.o.setCell (Or.inr (Or.inl rfl)) _⟩
      · rw [hwn]; exact hm.t.below (set_block hne.1)
      · rw [hsz]; exact hm.c.set u
      · exact hm.m.of_block (set_block fun e => hne.2.2 e.symm)
  refine ⟨fun h => ?_, fun h => main b.size (by omega)⟩
  have := main (s + p) (by omega)
  rw [show ((s + p : Nat) : Int) = (s : Int) + (p : Int) from by omega] at this
  exact this

end Go.Proofs.Ytpnnonphagddgaa
