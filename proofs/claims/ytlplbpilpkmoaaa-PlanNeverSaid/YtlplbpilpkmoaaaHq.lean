/- 'Pop', 'Peek', 'Len' of a queue. -/
import Derived.Test.YtlplbpilpkmoaaaHp
namespace Go.Proofs.Ytlplbpilpkmoaaa.hp
open Go.RowKit
set_option linter.unusedVariables false

theorem ta_item (k t : Int) (m : Bool) (w : World) : Sem.run Try.prog (Instr.typeAssert (.iface 39 (.agg #[.int .i64 k, .int .i64 t, .bool m])) 20 39 false) w = .ok (.agg #[.int .i64 k, .int .i64 t, .bool m]) w := by kernel_rfl
theorem g_pop (xs : Array It) (k : Nat) (hk : k < xs.size - 1) : g xs.pop k = g xs k := by
  rw [g_get (by simp; omega), g_get (by omega)]; simp
theorem QRow.pop {w : World} {G c : Nat} {xs : Array It} (h : QRow w G c xs) : QRow w G c xs.pop := by
  obtain ⟨h1, h2, f, hf, hc⟩ := h
  exact ⟨by simp; omega, h2, f, hf, fun i hi => by rw [g_pop xs i (by simpa using hi)]; exact hc i (by simp at hi; omega)⟩
/-- Behind 'Pop' of the items, and of the heap: the item that is handed back, the items that are left. -/
def PopE (w : World) (Q lo G c : Nat) (x : It) (ys : Array It) (e : Ending) (w' : World) : Prop :=
  e = .returned (.iface 39 (Iv x.d x.n x.w)) ∧ Qu w' Q lo (some G) c ys ∧ Fr w w' Q (some G)
theorem popE_of {w : World} {Q lo G c n : Nat} {xs : Array It} (h : Qu w Q lo (some G) c xs) (hn : xs.size = n + 1) (ob : Obj) :
    PopE w Q lo G c (g xs n) xs.pop (.returned (.iface 39 (Iv (g xs n).d (g xs n).n (g xs n).w))) ((w.setCell ⟨Q, 0, none⟩ (.slice (some ⟨G, 0, none⟩) n c)).alloc ob) := by
  have h1 : Qu (w.setCell ⟨Q, 0, none⟩ (.slice (some ⟨G, 0, none⟩) n c)) Q lo (some G) c xs.pop := by
    refine ⟨?_, by simpa using h.f0, h.row.1, h.row.2.1, (h.row.2.2.of_block (Below.heap_setCell _ _ _ _ (fun e => h.row.2.1 e.symm))).pop⟩
    · rw [World.cell?_setCell_same _ _ _ h.q0]; simp [hn]
  have h2 : Fr w (w.setCell ⟨Q, 0, none⟩ (.slice (some ⟨G, 0, none⟩) n c)) Q (some G) :=
    ⟨rfl, rfl, rfl, by simp [World.setCell], fun k hk hQ _ => by rw [Below.heap_setCell _ _ _ _ (fun e => hQ e)]⟩
  exact ⟨rfl, h1.below (below_alloc _ _), h2.trans (Fr.below (below_alloc _ _)) (fun k e => .inl e)⟩

set_option maxHeartbeats 1000000 in
theorem ipop_any (Q lo c n G : Nat) (xs : Array It) (w : World) (hn : xs.size = n + 1) (hN : n ≤ 1000000) (h : Qu w Q lo (some G) c xs) :
    Calls Try.prog 66 #[Pq Q] w (PopE w Q lo G c (g xs n) xs.pop) := by
  have q0 := h.q0
  have qf := h.f0
  have hQ := h.lt
  have hcap := h.row.2.2.1
  rw [hn] at q0 hcap
  have ha := h.row.2.2.at_ (i := n) (by omega)
  have HE := Lib.hid (fun ob => popE_of h hn ob)
  generalize g xs n = x at *
  obtain ⟨xk, xt, xm⟩ := x
  have f0 := ha.k
  have f1 := ha.t
  have f2 := ha.m
  dsimp only at f0 f1 f2 HE
  have hlen : ((n : Int) + 1 - 1) = n := by omega
  generalize xs.pop = ys at *
  clear hn h ha
  go_enter Try.func66, Try.ntmps66
  go_wp2_with fail
  go_ret
  exact HE.out _

set_option maxHeartbeats 2000000 in
theorem hpop_any (Q lo c n G : Nat) (xs : Array It) (w : World) (hn : xs.size = n + 1) (hN : n ≤ 900000) (h : Qu w Q lo (some G) c xs) :
    Calls Try.prog 29 #[.iface 60 (Pq Q)] w (PopE w Q lo G c (g (down (swp xs 0 n) 0 n) n) (down (swp xs 0 n) 0 n).pop) := by
  have E49 := e49
  have E51 := e51
  have E53 := e53
  unfold Enters at E49 E51 E53
  have hl := m_len Q w _ h.q0
  have hs := m_swap Q w _ h.q0
  rw [hn] at hl hs
  have hp := m_pop Q
  have HS := Lib.hid (swap_any G c (n + 1) 0 n xs w hn.symm (by omega) (by omega) h.row.2.2 (by omega))
  have HD := Lib.hid (fun W hW => down_any Q G c (n + 1) 0 n (swp xs 0 n) W (by rw [size_swp]; exact hn.symm) (by omega) (by omega) (by omega) hW)
  have HZ := Lib.hid (show (down (swp xs 0 n) 0 n).size = n + 1 by
    have := (down_ok (swp xs 0 n) n n 0 (by rw [size_swp]; omega) (fun k hk h0 h1 => by omega) (fun k hk h0 h1 => by omega)).2.2.1
    rw [this, size_swp]; exact hn)
  have HH := Lib.hid h
  have HLN := Lib.hid (len_any (Ao (some G)) (n + 1) c w)
  have HSZ := Lib.hid (size_swp xs 0 n)
  generalize swp xs 0 n = ys at *
  generalize down ys 0 n = zs at *
  clear hn h
  go_enter Try.func29, Try.ntmps29
  go_wp2_with fail
  refine HLN.out.mono ?_
  rintro e w' ⟨rfl, rfl⟩
  go_wp2_with fail
  refine HS.out.mono ?_
  rintro e w1 hs1
  obtain ⟨rfl, hs2, hg1⟩ := id hs1
  have hp1 := HH.out.hp.swap hs1 HSZ.out
  have HQ1 := Lib.hid (HH.out.heap hp1 hg1)
  have HD1 := Lib.hid (HD.out w1 hp1)
  have HF1 := Lib.hid (Fr.of_grown (Q := Q) hg1)
  clear hs1 hs2 hg1 hp1 hl hs HLN HS HD
  go_wp2_with fail
  refine HD1.out.mono ?_
  rintro e w2 ⟨⟨b, rfl⟩, hp2, hg2⟩
  have HQ2 := Lib.hid (HQ1.out.heap hp2 hg2)
  have HF2 := Lib.hid (HF1.out.trans (Fr.of_grown hg2) (fun k e => .inl e))
  have HP := Lib.hid (ipop_any Q lo c n G zs w2 HZ.out (by omega) HQ2.out)
  clear hp2 hg2 HD1
  go_wp2_with fail
  refine HP.out.mono ?_
  rintro e w3 ⟨rfl, hq3, hf3⟩
  have HR := Lib.hid (show PopE w Q lo G c (g zs n) zs.pop (.returned (.iface 39 (Iv (g zs n).d (g zs n).n (g zs n).w))) w3 from ⟨rfl, hq3, HF2.out.trans hf3 (fun k e => .inl e)⟩)
  clear hq3 hf3 HP
  go_wp2_with fail
  go_ret
  exact HR.out

end Go.Proofs.Ytlplbpilpkmoaaa.hp
