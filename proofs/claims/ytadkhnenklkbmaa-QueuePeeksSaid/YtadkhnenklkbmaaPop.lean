/- 'Pop', 'Peek', 'Len' of a queue. -/
import Derived.Test.YtadkhnenklkbmaaPush
namespace Go.Proofs.Ytadkhnenklkbmaa
open Go.RowKit
set_option linter.unusedVariables false

def ToldE (w : World) (k m : Int) (e : Ending) (w' : World) : Prop := e = .returned (.tuple #[.int .i64 k, .int .i64 m, .bool true]) ∧ Below w.heap.size w w'
set_option maxHeartbeats 400000 in
theorem told_any (k t m : Int) (w : World) : Calls Try.prog 23 #[Iv k t m] w (ToldE w k m) := by
  have hb := below_alloc w (.cells #[.int .i64 k, .int .u64 t, .int .i64 m] 53)
  go_enter Try.func23, Try.ntmps23
  go_wp2_with fail
  go_quiet (fail)
  go_wp2_with fail
  go_ret3
  exact ⟨rfl, below_step hb ⟨rfl, rfl, rfl, Nat.le_refl _, fun _ _ => rfl⟩⟩

theorem qlen_any (Q lo c T n : Nat) (o : Option Nat) (xs : Array It) (w : World) (hn : n = xs.size) (h : Qu w Q lo o c xs T) : Calls Try.prog 18 #[Pq Q] w (fun e w' => e = .returned (.int .i64 n) ∧ w = w') := by
  have q0 := h.q0
  rw [← hn] at q0
  clear hn h
  go_enter Try.func18, Try.ntmps18
  go_wp2_with fail
  go_ret
  exact ⟨rfl, rfl⟩

def PeekE (w : World) (xs : Array It) (e : Ending) (w' : World) : Prop :=
  (if xs.size = 0 then e = .returned (.tuple #[.int .i64 0, .int .i64 0, .bool false]) else e = .returned (.tuple #[.int .i64 (g xs 0).key, .int .i64 (g xs 0).num, .bool true])) ∧ Below w.heap.size w w'
theorem peekE_none {w : World} {xs : Array It} (h : xs.size = 0) : PeekE w xs (.returned (.tuple #[.int .i64 0, .int .i64 0, .bool false])) w := ⟨by rw [if_pos h], Below.refl _ _⟩
theorem peekE_some {w w' : World} {xs : Array It} (h : xs.size ≠ 0) (hb : Below w.heap.size w w') : PeekE w xs (.returned (.tuple #[.int .i64 (g xs 0).key, .int .i64 (g xs 0).num, .bool true])) w' := ⟨by rw [if_neg h], hb⟩
set_option maxHeartbeats 1000000 in
theorem qpeek_any (Q lo c T n : Nat) (o : Option Nat) (xs : Array It) (w : World) (hn : n = xs.size) (hN : n ≤ 1000000) (h : Qu w Q lo o c xs T) : Calls Try.prog 16 #[Pq Q] w (PeekE w xs) := by
  have q0 := h.q0
  rw [← hn] at q0
  by_cases h0 : n = 0
  · subst h0
    have HE := Lib.hid (peekE_none (w := w) hn.symm)
    clear hn h
    go_enter Try.func16, Try.ntmps16
    go_wp2_with fail
    go_ret3
    exact HE.out
  · cases o with
    | none => exact absurd (hn.trans h.row.1) h0
    | some G =>
      have ha := h.row.2.2.at_ (i := 0) (by omega)
      have HE := Lib.hid (fun w' hb => peekE_some (w := w) (w' := w') (xs := xs) (by omega) hb)
      generalize g xs 0 = x at *
      obtain ⟨xk, xt, xm⟩ := x
      have f0 := ha.k
      have f1 := ha.t
      have f2 := ha.m
      simp only [Nat.zero_mul, Nat.zero_add] at f0 f1 f2
      have hpos : 0 < n := by omega
      have hb0 : ((n : Int) == 0) = false := by simp; omega
      have HT := Lib.hid (told_any xk xt xm w)
      clear hn h ha h0
      go_enter Try.func16, Try.ntmps16
      go_wp2_with fail
      refine HT.out.mono ?_
      rintro e w1 ⟨rfl, hb⟩
      have HB := Lib.hid hb
      clear hb HT
      go_wp2_with fail
      go_ret3
      exact HE.out _ HB.out

theorem ta_item (k t m : Int) (w : World) : Sem.run Try.prog (Instr.typeAssert (.iface 53 (.agg #[.int .i64 k, .int .u64 t, .int .i64 m])) 20 53 false) w = .ok (.agg #[.int .i64 k, .int .u64 t, .int .i64 m]) w := by kernel_rfl
theorem g_pop (xs : Array It) (k : Nat) (hk : k < xs.size - 1) : g xs.pop k = g xs k := by
  rw [g_get (by simp; omega), g_get (by omega)]; simp
theorem QRow.pop {w : World} {G c : Nat} {xs : Array It} (h : QRow w G c xs) : QRow w G c xs.pop := by
  obtain ⟨h1, h2, f, hf, hc⟩ := h
  exact ⟨by simp; omega, h2, f, hf, fun i hi => by rw [g_pop xs i (by simpa using hi)]; exact hc i (by simp at hi; omega)⟩
/-- Behind 'Pop' of the items, and of the heap: the item that is handed back, the items that are left. -/
def PopE (w : World) (Q lo G c T : Nat) (x : It) (ys : Array It) (e : Ending) (w' : World) : Prop :=
  e = .returned (.iface 53 (Iv x.key x.turn x.num)) ∧ Qu w' Q lo (some G) c ys T ∧ Fr w w' Q (some G)
theorem popE_of {w : World} {Q lo G c T n : Nat} {xs : Array It} (h : Qu w Q lo (some G) c xs T) (hn : xs.size = n + 1) (ob : Obj) :
    PopE w Q lo G c T (g xs n) xs.pop (.returned (.iface 53 (Iv (g xs n).key (g xs n).turn (g xs n).num))) ((w.setCell ⟨Q, 0, none⟩ (.slice (some ⟨G, 0, none⟩) n c)).alloc ob) := by
  have n01 : (⟨Q, 0, none⟩ : Addr) ≠ ⟨Q, 1, none⟩ := fun e => by have := congrArg Addr.off e; simp at this
  have h1 : Qu (w.setCell ⟨Q, 0, none⟩ (.slice (some ⟨G, 0, none⟩) n c)) Q lo (some G) c xs.pop T := by
    refine ⟨?_, ?_, by simpa using h.f0, by simpa using h.f1, h.row.1, h.row.2.1, (h.row.2.2.of_block (Below.heap_setCell _ _ _ _ (fun e => h.row.2.1 e.symm))).pop⟩
    · rw [World.cell?_setCell_same _ _ _ h.q0]; simp [hn]
    · rw [World.cell?_setCell_other _ _ _ _ n01]; exact h.q1
  have h2 : Fr w (w.setCell ⟨Q, 0, none⟩ (.slice (some ⟨G, 0, none⟩) n c)) Q (some G) :=
    ⟨rfl, rfl, rfl, by simp [World.setCell], fun k hk hQ _ => by rw [Below.heap_setCell _ _ _ _ (fun e => hQ e)]⟩
  exact ⟨rfl, h1.below (below_alloc _ _), h2.trans (Fr.below (below_alloc _ _)) (fun k e => .inl e)⟩

set_option maxHeartbeats 1000000 in
theorem ipop_any (Q lo c T n G : Nat) (xs : Array It) (w : World) (hn : xs.size = n + 1) (hN : n ≤ 1000000) (h : Qu w Q lo (some G) c xs T) :
    Calls Try.prog 53 #[Pq Q] w (PopE w Q lo G c T (g xs n) xs.pop) := by
  have q0 := h.q0
  have qf := h.f0
  have hQ := h.lt
  have hcap := h.row.2.2.1
  rw [hn] at q0 hcap
  have ha := h.row.2.2.at_ (i := n) (by omega)
  have HE := Lib.hid (fun ob => popE_of h hn ob)
  generalize g xs n = x at *
  obtain ⟨xk, xt, xm⟩ := x
  have f0 := ha.k
  have f1 := ha.t
  have f2 := ha.m
  dsimp only at f0 f1 f2 HE
  have hlen : ((n : Int) + 1 - 1) = n := by omega
  generalize xs.pop = ys at *
  clear hn h ha
  go_enter Try.func53, Try.ntmps53
  go_wp2_with fail
  go_ret
  exact HE.out _

set_option maxHeartbeats 2000000 in
theorem hpop_any (Q lo c T n G : Nat) (xs : Array It) (w : World) (hn : xs.size = n + 1) (hN : n ≤ 900000) (h : Qu w Q lo (some G) c xs T) :
    Calls Try.prog 22 #[.iface 51 (Pq Q)] w (PopE w Q lo G c T (g (down (swp xs 0 n) 0 n) n) (down (swp xs 0 n) 0 n).pop) := by
  have E49 := e49
  have E51 := e51
  have E53 := e53
  unfold Enters at E49 E51 E53
  have hl := m_len Q w _ h.q0
  have hs := m_swap Q w _ h.q0
  rw [hn] at hl hs
  have hp := m_pop Q
  have HS := Lib.hid (swap_any G c (n + 1) 0 n xs w hn.symm (by omega) (by omega) h.row.2.2 (by omega))
  have HD := Lib.hid (fun W hW => down_any Q G c (n + 1) 0 n (swp xs 0 n) W (by rw [size_swp]; exact hn.symm) (by omega) (by omega) (by omega) hW)
  have HZ := Lib.hid (show (down (swp xs 0 n) 0 n).size = n + 1 by
    have := (down_ok (swp xs 0 n) n n 0 (by rw [size_swp]; omega) (fun k hk h0 h1 => by omega) (fun k hk h0 h1 => by omega)).2.2.1
    rw [this, size_swp]; exact hn)
  have HH := Lib.hid h
  have HLN := Lib.hid (len_any (Ao (some G)) (n + 1) c w)
  have HSZ := Lib.hid (size_swp xs 0 n)
  generalize swp xs 0 n = ys at *
  generalize down ys 0 n = zs at *
  clear hn h
  go_enter Try.func22, Try.ntmps22
  go_wp2_with fail
  refine HLN.out.mono ?_
  rintro e w' ⟨rfl, rfl⟩
  go_wp2_with fail
  refine HS.out.mono ?_
  rintro e w1 hs1
  obtain ⟨rfl, hs2, hg1⟩ := id hs1
  have hp1 := HH.out.hp.swap hs1 HSZ.out
  have HQ1 := Lib.hid (HH.out.heap hp1 hg1)
  have HD1 := Lib.hid (HD.out w1 hp1)
  have HF1 := Lib.hid (Fr.of_grown (Q := Q) hg1)
  clear hs1 hs2 hg1 hp1 hl hs HLN HS HD
  go_wp2_with fail
  refine HD1.out.mono ?_
  rintro e w2 ⟨⟨b, rfl⟩, hp2, hg2⟩
  have HQ2 := Lib.hid (HQ1.out.heap hp2 hg2)
  have HF2 := Lib.hid (HF1.out.trans (Fr.of_grown hg2) (fun k e => .inl e))
  have HP := Lib.hid (ipop_any Q lo c T n G zs w2 HZ.out (by omega) HQ2.out)
  clear hp2 hg2 HD1
  go_wp2_with fail
  refine HP.out.mono ?_
  rintro e w3 ⟨rfl, hq3, hf3⟩
  have HR := Lib.hid (show PopE w Q lo G c T (g zs n) zs.pop (.returned (.iface 53 (Iv (g zs n).key (g zs n).turn (g zs n).num))) w3 from ⟨rfl, hq3, HF2.out.trans hf3 (fun k e => .inl e)⟩)
  clear hq3 hf3 HP
  go_wp2_with fail
  go_ret
  exact HR.out

def QPopE (w : World) (Q lo : Nat) (o : Option Nat) (T : Nat) (xs : Array It) (e : Ending) (w' : World) : Prop :=
  (xs.size = 0 ∧ e = .returned (.tuple #[.int .i64 0, .int .i64 0, .bool false]) ∧ w = w') ∨
  ∃ n G c', xs.size = n + 1 ∧ o = some G ∧ e = .returned (.tuple #[.int .i64 (g (down (swp xs 0 n) 0 n) n).key, .int .i64 (g (down (swp xs 0 n) 0 n) n).num, .bool true]) ∧
    Qu w' Q lo o c' (down (swp xs 0 n) 0 n).pop T ∧ Fr w w' Q o
set_option maxHeartbeats 2000000 in
theorem qpop_any (Q lo c T : Nat) (o : Option Nat) (xs : Array It) (w : World) (hN : xs.size ≤ 900000) (h : Qu w Q lo o c xs T) :
    Calls Try.prog 12 #[Pq Q] w (QPopE w Q lo o T xs) := by
  have q0 := h.q0
  rcases Nat.eq_zero_or_pos xs.size with h0 | h0
  · rw [h0] at q0
    have HE := Lib.hid (show QPopE w Q lo o T xs (.returned (.tuple #[.int .i64 0, .int .i64 0, .bool false])) w from .inl ⟨h0, rfl, rfl⟩)
    clear h h0
    go_enter Try.func12, Try.ntmps12
    go_wp2_with fail
    go_ret3
    exact HE.out
  · cases o with
    | none => have := h.row.1; omega
    | some G =>
      obtain ⟨n, hn⟩ : ∃ n, xs.size = n + 1 := ⟨xs.size - 1, by omega⟩
      rw [hn] at q0
      have HP := Lib.hid (hpop_any Q lo c T n G xs w hn (by omega) h)
      have HE := Lib.hid (fun (w1 w' : World) (hq : Qu w1 Q lo (some G) c (down (swp xs 0 n) 0 n).pop T) (hf : Fr w w1 Q (some G)) (hb : Below w1.heap.size w1 w') =>
        (show QPopE w Q lo (some G) T xs (.returned (.tuple #[.int .i64 (g (down (swp xs 0 n) 0 n) n).key, .int .i64 (g (down (swp xs 0 n) 0 n) n).num, .bool true])) w' from
          .inr ⟨n, G, c, hn, rfl, rfl, hq.below hb, hf.trans (Fr.below hb) (fun k e => .inl e)⟩))
      generalize (down (swp xs 0 n) 0 n).pop = ys at *
      generalize g (down (swp xs 0 n) 0 n) n = x at *
      obtain ⟨xk, xt, xm⟩ := x
      dsimp only at HE
      have hta := ta_item xk xt xm
      have hb0 : ((n : Int) + 1 == 0) = false := by simp; omega
      clear h hn h0
      go_enter Try.func12, Try.ntmps12
      go_wp2_with fail
      refine HP.out.mono ?_
      rintro e w1 ⟨rfl, hq, hf⟩
      have HT := Lib.hid (fun W => told_any xk xt xm W)
      have HQ := Lib.hid hq
      have HFr := Lib.hid hf
      clear hq hf HP
      go_wp2_with fail
      refine (HT.out _).mono ?_
      rintro e w2 ⟨rfl, hb⟩
      have HB := Lib.hid (below_step (below_alloc _ _) hb)
      clear hb HT
      go_wp2_with fail
      go_ret3
      exact HE.out _ _ HQ.out HFr.out HB.out
end Go.Proofs.Ytadkhnenklkbmaa
