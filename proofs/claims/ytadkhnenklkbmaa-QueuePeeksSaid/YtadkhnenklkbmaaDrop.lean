/- 'Init' of the heap; 'Drop', 'New' of a queue. -/
import Derived.Test.YtadkhnenklkbmaaDel
namespace Go.Proofs.Ytadkhnenklkbmaa
open Go.RowKit
set_option linter.unusedVariables false

def InitE (w : World) (Q lo : Nat) (o : Option Nat) (c T : Nat) (ys : Array It) (e : Ending) (w' : World) : Prop := e = .returned (.tuple #[]) ∧ Qu w' Q lo o c ys T ∧ Fr w w' Q o
theorem Fr.refl (w : World) (Q : Nat) (o : Option Nat) : Fr w w Q o := ⟨rfl, rfl, rfl, Nat.le_refl _, fun _ _ _ _ => rfl⟩
theorem down_size {xs : Array It} {i n : Nat} (hn : n ≤ xs.size) : (down xs i n).size = xs.size :=
  (down_ok xs n (n + i + 1) i hn (fun k hk h0 h1 => by omega) (fun k hk h0 h1 h2 h3 => by omega)).2.2.1

set_option maxHeartbeats 2000000 in
theorem init_any (Q lo c T n : Nat) (o : Option Nat) (xs : Array It) (w : World) (hn : n = xs.size) (hN : n ≤ 1000000) (h : Qu w Q lo o c xs T) :
    Calls Try.prog 27 #[.iface 51 (Pq Q)] w (InitE w Q lo o c T (initN n (n / 2) xs)) := by
  have E49 := e49
  unfold Enters at E49
  have hl := m_len Q w _ h.q0
  rw [← hn] at hl
  have HL := Lib.hid (len_any (Ao o) n c w)
  obtain ⟨hf, hhf⟩ : ∃ a, n / 2 = a := ⟨_, rfl⟩
  have hd : (n : Int) / 2 = (hf : Int) := by omega
  have hb : hf ≤ n / 2 := by omega
  rw [hhf]
  generalize hr : initN n hf xs = rs
  have HR := Lib.hid hr
  have HN := Lib.hid hn
  have HQ := Lib.hid h
  clear hr hn h hhf
  go_enter Try.func27, Try.ntmps27
  go_wp2_with fail
  refine HL.out.mono ?_
  rintro e w' ⟨rfl, rfl⟩
  clear hl HL
  go_wp2_with fail
  go_loopg [3] hf (fun k s wr => ∃ ys, s = .int .i64 ((k : Int) - 1) ∧ k ≤ hf ∧ Hid (n = ys.size) ∧ Hid (Qu wr Q lo o c ys T) ∧ Hid (initN n k ys = rs) ∧ Hid (Fr w wr Q o))
  case atStart => exact ⟨xs, rfl, by omega, HN, HQ, HR, Lib.hid (Fr.refl _ _ _)⟩
  case round =>
    clear HR HN HQ
    obtain ⟨ys, rfl, hk, HN, HQ, HR, HF⟩ := hrel
    cases gk with
    | zero =>
      go_wp2_with fail
      go_end0
      exact ⟨rfl, by have := HR.out; unfold initN at this; rw [← this]; exact HQ.out, HF.out⟩
    | succ k =>
      cases o with
      | none => exact absurd HQ.out.row.1 (by have := HN.out; omega)
      | some G =>
        have hs : ((k : Int) + 1 - 1) = (k : Int) := by omega
        have HD := Lib.hid (down_any Q G c n k n ys wr HN.out (by omega) (Nat.le_refl _) hN HQ.out.hp)
        have hkp : (0 : Int) ≤ (k : Int) := by omega
        go_wp2_with fail
        refine HD.out.mono ?_
        rintro e w2 ⟨⟨b, rfl⟩, hp, hg⟩
        have HQ2 := Lib.hid (HQ.out.heap hp hg)
        have HF2 := Lib.hid (HF.out.trans (Fr.of_grown hg) (fun k e => .inl e))
        have HR2 := Lib.hid (show initN n k (down ys k n) = rs from HR.out)
        clear hp hg HD
        go_wp2_with fail
        go_roundg k
        case measure => omega
        case rel => exact ⟨_, rfl, by omega, Lib.hid (by rw [down_size (Nat.le_of_eq HN.out)]; exact HN.out), HQ2, HR2, HF2⟩

theorem new_any (w : World) (lo : Nat) (hlo : lo ≤ w.heap.size) : Calls Try.prog 9 #[] w (fun e w' => ∃ ob, e = .returned (Pq w.heap.size) ∧ Qu w' w.heap.size lo none 0 #[] 0 ∧ w' = w.alloc ob) := by
  have HQ := Lib.hid (show Qu (w.alloc (.cells #[.slice none 0 0, .int .u64 0] 49)) w.heap.size lo none 0 #[] 0 from ⟨by simp, by simp, by simp, by simp, ⟨rfl, rfl⟩⟩)
  go_enter Try.func9, Try.ntmps9
  go_wp2_with fail
  go_ret
  exact ⟨_, rfl, HQ.out, rfl⟩

def DropE (w : World) (Q lo : Nat) (o : Option Nat) (c T : Nat) (m : Int) (xs : Array It) (e : Ending) (w' : World) : Prop :=
  ∃ ys, ys.toList = xs.toList.filter (keepB m) ∧ e = .returned (.int .i64 ((xs.size : Int) - (ys.size : Int))) ∧ Qu w' Q lo o c (initN ys.size (ys.size / 2) ys) T ∧ Fr w w' Q o
theorem Qu.deleted {w w1 : World} {Q lo c T : Nat} {o : Option Nat} {xs ys : Array It} (h : Qu w Q lo o c xs T) (hs : Sl w1 o c ys) (hQ : w1.heap[Q]? = w.heap[Q]?) :
    Qu (w1.setCell ⟨Q, 0, none⟩ (.slice (Ao o) ys.size c)) Q lo o c ys T := by
  have n01 : (⟨Q, 0, none⟩ : Addr) ≠ ⟨Q, 1, none⟩ := fun e => by have := congrArg Addr.off e; simp at this
  refine ⟨?_, ?_, ?_, ?_, ?_⟩
  · exact World.cell?_setCell_same _ _ _ ((World.cell?_of_block hQ).trans h.q0)
  · rw [World.cell?_setCell_other _ _ _ _ n01]; exact (World.cell?_of_block hQ).trans h.q1
  · simpa using (World.frozen?_of_block (a := ⟨Q, 0, none⟩) hQ).trans h.f0
  · simpa using (World.frozen?_of_block (a := ⟨Q, 1, none⟩) hQ).trans h.f1
  · cases o with
    | none => exact hs
    | some G => exact ⟨h.row.1, h.row.2.1, QRow.of_block hs (Below.heap_setCell _ _ _ _ (fun e => h.row.2.1 e.symm))⟩
theorem Qu.notQ {w : World} {Q lo c T : Nat} {o : Option Nat} {xs : Array It} (h : Qu w Q lo o c xs T) : some Q ≠ o := by
  cases o with
  | none => simp
  | some G => intro e; injection e with e; exact h.row.2.1 e
theorem Qu.old {w : World} {Q lo c T : Nat} {o : Option Nat} {xs : Array It} (h : Qu w Q lo o c xs T) : ∀ G, o = some G → G < w.heap.size := by
  intro G e; subst e; exact h.row.2.2.lt
theorem Fr.grown {w w' : World} {Q : Nat} {o : Option Nat} (h : w.grownBy w' o) : Fr w w' Q o := ⟨h.os, h.tape, h.output, h.size, fun k hk _ ho => h.block k hk (fun e => ho e.symm)⟩
theorem Fr.setQ (w : World) (Q : Nat) (o : Option Nat) (v : Value) : Fr w (w.setCell ⟨Q, 0, none⟩ v) Q o :=
  ⟨rfl, rfl, rfl, by simp [World.setCell], fun k _ hQ _ => by rw [Below.heap_setCell _ _ _ _ (fun e => hQ e)]⟩
theorem size_initN {n i : Nat} {xs : Array It} (hn : n ≤ xs.size) : (initN n i xs).size = xs.size := by
  induction i generalizing xs with
  | zero => rfl
  | succ i ih => unfold initN; rw [ih (by rw [down_size hn]; exact hn), down_size hn]

set_option maxHeartbeats 2000000 in
theorem qdrop_any (Q lo c T : Nat) (o : Option Nat) (xs : Array It) (m : Int) (w : World) (hN : xs.size ≤ 1000000) (h : Qu w Q lo o c xs T) :
    Calls Try.prog 14 #[Pq Q, .int .i64 m] w (DropE w Q lo o c T m xs) := by
  have hb := below_alloc w (.cells #[.int .i64 m] 3)
  have hQ := h.lt
  have q0 := h.q0
  have q1 := (h.below hb).q0
  have HD := Lib.hid (del_any 25 w.heap.size xs.size c o m xs (w.alloc (.cells #[.int .i64 m] 3)) e25 (asks25 _ _) (by simp) (fun e => by have := h.old _ e; omega) rfl hN (h.sl.below hb))
  have HH := Lib.hid h
  have HB := Lib.hid hb
  have hz : (w.alloc (.cells #[.int .i64 m] 3)).heap.size = w.heap.size + 1 := by simp
  have HZ := Lib.hid hz
  obtain ⟨n, hn⟩ : ∃ n, xs.size = n := ⟨_, rfl⟩
  have HN := Lib.hid hn
  rw [hn] at q0 q1 HD
  have hN2 : n ≤ 1000000 := by omega
  clear h hb hz hN hn
  go_enter Try.func14, Try.ntmps14
  go_wp2_with fail
  refine HD.out.mono ?_
  rintro e w2 ⟨ys, hf, rfl, hs, hg⟩
  have hblk : w2.heap[Q]? = w.heap[Q]? := (hg.block Q (by rw [HZ.out]; omega) HH.out.notQ).trans (HB.out.block Q hQ)
  have c0 := (World.cell?_of_block (a := ⟨Q, 0, none⟩) hblk).trans HH.out.q0
  have c1 := (World.frozen?_of_block (a := ⟨Q, 0, none⟩) hblk).trans HH.out.f0
  have HQ2 := Lib.hid (HH.out.deleted hs hblk)
  have HF2 := Lib.hid (((Fr.below HB.out).trans (Fr.grown (Q := Q) hg) (fun k e => .inl e)).trans (Fr.setQ w2 Q o (.slice (Ao o) ys.size c)) (fun k e => .inl e))
  have hle : ys.size ≤ n := by
    have := congrArg List.length hf
    rw [Array.length_toList] at this
    rw [this, ← HN.out, ← Array.length_toList]
    exact List.length_filter_le _ _
  have HFL := Lib.hid hf
  obtain ⟨k, hk⟩ : ∃ k, ys.size = k := ⟨_, rfl⟩
  have HK := Lib.hid hk
  rw [hk] at HQ2 HF2 hle
  rw [HN.out] at c0
  have HI := Lib.hid (init_any Q lo c T k o ys (w2.setCell ⟨Q, 0, none⟩ (.slice (Ao o) k c)) hk.symm (by omega) HQ2.out)
  rw [hk]
  clear hf hs hg hblk HD hk
  go_wp2_with fail
  refine HI.out.mono ?_
  rintro e w3 ⟨rfl, hq3, hf3⟩
  have d0 := hq3.q0
  rw [size_initN (Nat.le_of_eq HK.out.symm), HK.out] at d0
  have HR := Lib.hid (show DropE w Q lo o c T m xs (.returned (.int .i64 ((n : Int) - (k : Int)))) w3 from ⟨ys, HFL.out, by rw [HN.out, HK.out], by rw [HK.out]; exact hq3, HF2.out.trans hf3 (fun k e => .inl e)⟩)
  clear hq3 hf3 HI c0 c1
  go_wp2_with fail
  go_ret
  exact HR.out
end Go.Proofs.Ytadkhnenklkbmaa
