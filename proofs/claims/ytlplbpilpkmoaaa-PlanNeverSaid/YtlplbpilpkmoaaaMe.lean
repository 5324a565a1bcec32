/- 'at', 'claims', 'has', 'in'. -/
import Derived.Test.YtlplbpilpkmoaaaMc
import Derived.Test.YtlplbpilpkmoaaaMd
import Derived.Laws.ResultCell
import Derived.Laws.AppendOwn
import Derived.Laws.Cover3
namespace Go.Proofs.Ytlplbpilpkmoaaa.sc
open Go.RowKit Go.Shelf
set_option linter.unusedVariables false
set_option linter.unusedSimpArgs false

def StE (w : World) (v : Value) (e : Ending) (w' : World) : Prop := e = .returned v ∧ w' = w
def Iv (k : Nat) : Value := .int .i64 (k : Int)
def IntsE (w : World) (L : List Nat) (e : Ending) (w' : World) : Prop := ∃ v, e = .returned v ∧ w'.ownsRow w.heap.size 3 1 v L.length (L.map Iv) ∧ Below w.heap.size w w'
theorem own_slice {w : World} {b e sz n : Nat} {v : Value} {L : List Value} (h : w.ownsRow b e sz v n L) : ∃ A c, v = .slice A n c := by
  rcases h.2 with ⟨h1, h2⟩ | ⟨g, cap, cur, h1, _⟩
  · exact ⟨none, 0, by rw [h1, h2]⟩
  · exact ⟨_, cap, h1⟩
theorem cell_new1 (w : World) (v : Value) (t : TypeId) : ∀ j u, [v][j]? = some u → (w.alloc (.cells #[v] t)).cell? ((⟨w.heap.size, 0, none⟩ : Addr).add j) = some u := by
  intro j u hj
  rcases j with _ | j
  · simp at hj
    subst hj
    simp [Addr.add]
  · simp at hj

section
variable {w0 w : World} {P B M : Nat} {tg : Nat → Tag} {f : Int → Option Value} {s : Sd}
set_option maxHeartbeats 1000000 in
theorem at_out (h : SbX w0 w P B M tg f s) {t : Int} (ht : ¬ s.ok t) : Calls Try.prog 34 #[Pq P, .int .i64 t] w (StE w (.pointer none)) := by
  unfold StE
  have p0 := h.p0
  generalize hn : s.n = n at p0
  have hx : ¬ (0 ≤ t ∧ t < (n : Int)) := by rw [← hn]; exact ht
  have h64 : n ≤ 64 := hn ▸ h.n64
  clear h ht hn
  by_cases h0 : t < 0
  · clear hx
    go_enter Try.func34, Try.ntmps34
    go_wp2_with fail
    go_ret
    exact ⟨rfl, rfl⟩
  · have h1 : (n : Int) ≤ t := by omega
    clear hx
    go_enter Try.func34, Try.ntmps34
    go_wp2_with fail
    go_ret
    exact ⟨rfl, rfl⟩
set_option maxHeartbeats 1000000 in
theorem at_in (h : SbX w0 w P B M tg f s) {k : Nat} (hk : k < s.n) : Calls Try.prog 34 #[Pq P, .int .i64 (k : Int)] w (StE w (.pointer (some ⟨B, k * 2, none⟩))) := by
  unfold StE
  have p0 := h.p0
  have h64 := h.n64
  generalize s.n = n at p0 hk h64
  clear h
  go_enter Try.func34, Try.ntmps34
  go_wp2_with fail
  go_ret
  exact ⟨by simp, rfl⟩
theorem zero58 (w : World) : (zeroValue 78).run Try.prog w = .ok (.slice none 0 0) w := by kernel_rfl
theorem SbX.look (h : SbX w0 w P B M tg f s) {l : Int} (hl : Wf l) : (Instr.lookup 69 (.map (some M)) (.int .i64 l) false).run Try.prog w = .ok ((f l).getD (.slice none 0 0)) w := by
  obtain ⟨S, hm⟩ := h.map
  exact hm.look Try.underlying69 (zero58 w) hl
theorem claims_any (h : SbX w0 w P B M tg f s) {l : Int} (hl : Wf l) : Calls Try.prog 42 #[Pq P, .int .i64 l] w (StE w ((f l).getD (.slice none 0 0))) := by
  unfold StE
  have p1 := h.p1
  have hL := h.look hl
  generalize (f l).getD (.slice none 0 0) = v at hL ⊢
  clear h hl
  go_enter Try.func42, Try.ntmps42
  go_wp2_with fail
  go_ret
  exact ⟨rfl, rfl⟩
set_option maxHeartbeats 1000000 in
theorem has_any (h : SbX w0 w P B M tg f s) (hN : s.N ≤ 1000000) (k : Nat) {l : Int} (hl : Wf l) : Calls Try.prog 35 #[Pq P, .int .i64 (k : Int), .int .i64 l] w (RetB w (s.has k l)) := by
  have hb := below_alloc w (.cells #[.int .i64 (k : Int)] 3)
  have h1 := h.below hb
  obtain ⟨o, c, hv, hs, -⟩ := h1.row l
  have HK := Lib.hid (claims_any h1 hl)
  rw [hv] at HK
  have hfew := h1.few l
  have HC := Lib.hid (cont_any 43 w.heap.size (s.cl l).length c o k (pHas k) (s.cl l) _ e35 (asks35 _ _) (show (w.alloc (.cells #[.int .i64 (k : Int)] 3)).cell? ⟨w.heap.size, 0, none⟩ = some (.int .i64 (k : Int)) by simp) rfl (by omega) hs)
  have HH := Lib.hid (show (s.cl l).any (pHas k) = s.has k l from rfl)
  rw [HH.out] at HC
  generalize s.has k l = r at *
  generalize hm : (s.cl l).length = m at *
  unfold StE at HK
  unfold RetB at HC
  clear hs hv h h1 hl hfew hm
  go_enter Try.func35, Try.ntmps35
  go_wp2_with fail
  refine HK.out.mono ?_
  rintro e w2 ⟨rfl, rfl⟩
  go_wp2_with fail
  refine HC.out.mono ?_
  rintro e w2 ⟨rfl, hb2⟩
  go_wp2_with fail
  go_ret
  exact ⟨rfl, below_step hb hb2⟩

def atK (s : Sd) (what k : Nat) : List Nat := (List.range k).filter fun j => decide (s.T.st j = what)
theorem atK_in {s : Sd} {what k : Nat} (h : s.T.st k = what) : atK s what (k + 1) = atK s what k ++ [k] := by simp [atK, List.range_succ, h]
theorem atK_out {s : Sd} {what k : Nat} (h : ¬ s.T.st k = what) : atK s what (k + 1) = atK s what k := by simp [atK, List.range_succ, h]
theorem atK_le (s : Sd) (what k : Nat) : (atK s what k).length ≤ k := by
  have := List.length_filter_le (fun j => decide (s.T.st j = what)) (List.range k)
  simpa [atK] using this
set_option maxHeartbeats 4000000 in
theorem in_any (h : SbX w0 w P B M tg f s) (what : Nat) : Calls Try.prog 33 #[Pq P, .int .i64 (what : Int)] w (IntsE w (s.at_ what)) := by
  have HX := Lib.hid h
  have p0 := h.p0
  have h64 := h.n64
  have HD := Lib.hid (show s.at_ what = atK s what s.n from rfl)
  obtain ⟨n, hn⟩ : ∃ n, s.n = n := ⟨_, rfl⟩
  rw [hn] at p0 h64 HD
  have HN := Lib.hid hn
  rw [HD.out]
  obtain ⟨i0, hi, hz0, hz1, hz2⟩ := info_parts (P := Try.prog) (e := 3) (z := .int .i64 0) (size := 1) (bytes := 8) (by kernel_rfl)
  have HI := Lib.hid hi
  have HZ := Lib.hid (show i0.zero = some (.int .i64 0) ∧ i0.size = 1 ∧ i0.bytes = 8 from ⟨hz0, hz1, hz2⟩)
  clear h hi hz0 hz1 hz2 hn HD
  go_enter Try.func33, Try.ntmps33
  go_wp2_with fail
  go_loopg [5, 15] n (fun gg s5 s15 wr => ∃ k : Nat, gg + k = n ∧ s15 = .int .i64 k ∧ Hid (wr.ownsRow w.heap.size 3 1 s5 (atK s what k).length ((atK s what k).map Iv)) ∧ Hid (Below w.heap.size w wr))
  case atStart => exact ⟨0, by omega, rfl, Lib.hid (World.ownsRow_nil _ _ _ _), Lib.hid (Below.refl _ _)⟩
  case round =>
    obtain ⟨k, hg, rfl, HO, HB⟩ := hrel
    have HLE := Lib.hid (atK_le s what k)
    obtain ⟨L, hL⟩ : ∃ L, L = atK s what k := ⟨_, rfl⟩
    obtain ⟨m, hm⟩ : ∃ m, m = L.length := ⟨_, rfl⟩
    rw [← hL, ← hm] at HO HLE
    have HLL := Lib.hid hL
    have HNN := Lib.hid hm
    have HW := Lib.hid HB.out.size
    clear hL hm
    by_cases hk : k < n
    · obtain ⟨c0, c1⟩ := (HX.out.below HB.out).tsk.1 k (by rw [HN.out]; exact hk)
      have HIN := Lib.hid (fun e => atK_in (s := s) (what := what) (k := k) e)
      have HOUT := Lib.hid (fun e => atK_out (s := s) (what := what) (k := k) e)
      generalize s.T.st k = st at *
      generalize s.T.lk k = lk at *
      have HA := Lib.hid (below_alloc wr (.cells #[.int .i64 (st : Int), .int .i64 lk] 77))
      by_cases hs : st = what
      · have HT := Lib.hid (HIN.out hs)
        have hb1 : ((st : Int) == (what : Int)) = true := by rw [hs]; simp
        clear hs HIN HOUT
        go_wp2_with (at_builtin; refine wpList_append_own _ rfl (.tmp 24) (.tmp 26) 33 rfl w.heap.size 3 i0 _ 1 8 Try.underlying33 HI.out HZ.out.1 HZ.out.2.1 HZ.out.2.2 rfl (by decide) u5 m (L.map Iv) rfl ((HO.out.alloc _).alloc _) ⟨wr.heap.size + 1, 0, none⟩ 1 1 [Iv k] rfl rfl (by rw [← World.size_alloc wr (.cells #[.int .i64 (st : Int), .int .i64 lk] 77)]; exact cell_new1 _ _ _) (by intro u hu; simp at hu; subst hu; rfl) (by have := HLE.out; unfold maxLen; omega) (by have := HLE.out; omega) (by have := HW.out; simp; omega) ?_; intro v1 w3 hown1 hgrow1 _)
        go_roundg (gk - 1)
        case measure => omega
        case rel =>
          have hb3 : Below w.heap.size w w3 := ((HB.out.alloc HW.out _).alloc (by have := HW.out; simp; omega) _).grown hgrow1 (by have := HW.out; simp; omega) (fun g h => (HO.out.lt g h).1)
          refine ⟨k + 1, by omega, by go_num, ?_, Lib.hid hb3⟩
          rw [HT.out, ← HLL.out, List.length_append, List.length_singleton, ← HNN.out, List.map_append]
          exact Lib.hid hown1
      · have HT := Lib.hid (HOUT.out hs)
        have hb1 : ((st : Int) == (what : Int)) = false := by simp; omega
        clear hs HIN HOUT
        go_wp2_with fail
        go_roundg (gk - 1)
        case measure => omega
        case rel => exact ⟨k + 1, by omega, by go_num, by rw [HT.out, ← HLL.out, ← HNN.out]; exact Lib.hid (HO.out.alloc _), Lib.hid (below_step HB.out HA.out)⟩
    · have hk2 : k = n := by omega
      obtain ⟨A, cc, rfl⟩ := own_slice HO.out
      have HF := Lib.hid (show IntsE w (atK s what n) (.returned (.slice A m cc)) wr from ⟨_, rfl, by rw [← hk2, ← HLL.out, ← HNN.out]; exact HO.out, HB.out⟩)
      clear hk2
      go_wp2_with fail
      go_ret
      exact HF.out
end

end Go.Proofs.Ytlplbpilpkmoaaa.sc
