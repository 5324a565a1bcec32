/- Holes: the numbers of the chunks that are not there. -/
import Derived.Test.YtpnnonphagddgaaRead
namespace Go.Proofs.Ytpnnonphagddgaa
open Go.RowKit
set_option linter.unusedVariables false
set_option linter.unusedSimpArgs false

def holesL (c : Nat) (th : Nat → Bool) : List Nat := (List.range c).filter fun k => !th k
def Iv (k : Nat) : Value := .int .i64 (k : Int)
theorem holesL_yes {k : Nat} {th : Nat → Bool} (h : th k = true) : holesL (k + 1) th = holesL k th := by unfold holesL; rw [List.range_succ, List.filter_append]; simp [h]
theorem holesL_no {k : Nat} {th : Nat → Bool} (h : th k = false) : holesL (k + 1) th = holesL k th ++ [k] := by unfold holesL; rw [List.range_succ, List.filter_append]; simp [h]
theorem holesL_le (k : Nat) (th : Nat → Bool) : (holesL k th).length ≤ k := by
  unfold holesL
  refine Nat.le_trans (List.length_filter_le _ _) (by simp)
def HolesE (w : World) (L : List Nat) (e : Ending) (w' : World) : Prop := ∃ v, e = .returned v ∧ w'.ownsRow w.heap.size 3 1 v L.length (L.map Iv) ∧ Below w.heap.size w w'
theorem own_slice {w : World} {b e sz n : Nat} {v : Value} {L : List Value} (h : w.ownsRow b e sz v n L) : ∃ A c, v = .slice A n c := by
  rcases h.2 with ⟨h1, h2⟩ | ⟨g, cap, cur, h1, _⟩
  · exact ⟨none, 0, by rw [h1, h2]⟩
  · exact ⟨_, cap, h1⟩
theorem cell_new1 (w : World) (v : Value) (t : TypeId) : ∀ j u, [v][j]? = some u → (w.alloc (.cells #[v] t)).cell? ((⟨w.heap.size, 0, none⟩ : Addr).add j) = some u := by
  intro j u hj
  rcases j with _ | j
  · simp at hj
    subst hj
    simp [Addr.add]
  · simp at hj
theorem cell_new2 (w : World) (o : Obj) (v : Value) (t : TypeId) : ∀ j u, [v][j]? = some u → ((w.alloc o).alloc (.cells #[v] t)).cell? ((⟨w.heap.size + 1, 0, none⟩ : Addr).add j) = some u := by
  have h := cell_new1 (w.alloc o) v t
  rw [show (w.alloc o).heap.size = w.heap.size + 1 from by simp] at h
  exact h
set_option maxHeartbeats 2000000 in
set_option maxRecDepth 100000 in
theorem holes_any (S B M : Nat) (b : AB) (w : World) (hb : Bod w S B M b) : Calls Try.prog 28 #[Pq B] w (HolesE w (holesL ((b.size + 15) / 16) b.th)) := by
  have hB := hb.ltB
  have hM := hb.ltM
  have hsz := hb.ok.size
  have c1 := hb.c.c1
  obtain ⟨d, hd⟩ : ∃ d, d = (b.size + 15) / 16 := ⟨_, rfl⟩
  have hck := chunksTo_any b.size w (by omega)
  rw [← hd] at hck ⊢
  have hdl : (d : Int) ≤ 4096 := by omega
  obtain ⟨i0, hi, hz0, hz1, hz2⟩ := info_parts (P := Try.prog) (e := 3) (z := .int .i64 0) (size := 1) (bytes := 8) (by kernel_rfl)
  have HB0 := Lib.hid hb
  have HI := Lib.hid hi
  have HZ := Lib.hid (show i0.zero = some (.int .i64 0) ∧ i0.size = 1 ∧ i0.bytes = 8 from ⟨hz0, hz1, hz2⟩)
  clear hd hb hsz hi hz0 hz1 hz2
  go_enter Try.func28, Try.ntmps28
  go_wp2_with (go_at_call 37; ((with_reducible refine hck.mono ?_); rintro e w' ⟨rfl, rfl⟩))
  clear hck
  go_loopg [3, 12] d (fun g s3 s12 wr => ∃ k : Nat, g + k = d ∧ s12 = .int .i64 (k : Int) ∧ Hid (wr.ownsRow w.heap.size 3 1 s3 (holesL k b.th).length ((holesL k b.th).map Iv)) ∧ Hid (Below w.heap.size w wr))
  case atStart => exact ⟨0, by omega, rfl, Lib.hid (World.ownsRow_nil _ _ _ _), Lib.hid (Below.refl _ _)⟩
  case round =>
    obtain ⟨k, hg, rfl, HO, HBL⟩ := hrel
    have HB := Lib.hid (HB0.out.below HBL.out hB hM)
    have HLE := Lib.hid (holesL_le k b.th)
    obtain ⟨L, hL⟩ : ∃ L, L = holesL k b.th := ⟨_, rfl⟩
    obtain ⟨n, hn⟩ : ∃ n, n = L.length := ⟨_, rfl⟩
    rw [← hL, ← hn] at HO HLE
    have HLL := Lib.hid hL
    have HNN := Lib.hid hn
    have HW := Lib.hid HBL.out.size
    clear hL hn
    by_cases hlt : k < d
    · have hlti : (k : Int) < (d : Int) := by omega
      have hlook := HB.out.m.look k true
      have c2 := HB.out.c.c2
      have hst := store_chunk wr b.dat k
      have hcs := chunkA_size b.dat k
      simp only [if_true] at hlook
      cases ht : b.th k
      · rw [ht] at hlook
        have HT := Lib.hid (holesL_no ht)
        clear ht
        go_wp2_with (at_builtin; refine wpList_append_own _ rfl (.tmp 26) (.tmp 28) 54 rfl w.heap.size 3 i0 _ 1 8 Try.underlying54 HI.out HZ.out.1 HZ.out.2.1 HZ.out.2.2 rfl (by decide) u3 n (L.map Iv) rfl ((HO.out.alloc _).alloc _) ⟨wr.heap.size + 1, 0, none⟩ 1 1 [Iv k] rfl rfl (cell_new2 _ _ _ _) (by intro u hu; simp at hu; subst hu; rfl) (by have := HLE.out; unfold maxLen; omega) (by have := HLE.out; omega) (by have := HW.out; simp; omega) ?_; intro v1 w3 hown1 hgrow1 _)
        go_roundg (gk - 1)
        case measure => omega
        case rel =>
          have hb3 : Below w.heap.size w w3 := ((HBL.out.alloc HW.out _).alloc (by have := HW.out; simp; omega) _).grown hgrow1 (by have := HW.out; simp; omega) (fun g h => (HO.out.lt g h).1)
          refine ⟨k + 1, by omega, by go_num, ?_, Lib.hid hb3⟩
          · rw [HT.out, ← HLL.out, List.length_append, List.length_singleton, ← HNN.out, List.map_append]
            exact Lib.hid hown1
      · rw [ht] at hlook
        have HT := Lib.hid (holesL_yes ht)
        clear ht
        go_wp2
        go_roundg (gk - 1)
        case measure => omega
        case rel =>
          refine ⟨k + 1, by omega, by go_num, ?_, Lib.hid (HBL.out.alloc HW.out _)⟩
          rw [HT.out, ← HLL.out, ← HNN.out]
          exact Lib.hid (HO.out.alloc _)
    · have hk : k = d := by omega
      obtain ⟨A, cc, rfl⟩ := own_slice HO.out
      have HF := Lib.hid (show HolesE w (holesL d b.th) (.returned (.slice A n cc)) wr from ⟨_, rfl, by rw [← hk, ← HLL.out, ← HNN.out]; exact HO.out, HBL.out⟩)
      clear hk
      go_wp2
      go_ret
      exact HF.out
end Go.Proofs.Ytpnnonphagddgaa
