/- 'Joined', 'Join'. -/
import Derived.Test.YtldleojipogcmaaNd
import Derived.Maps.AppendAt
import Derived.Deep.AppendLies
namespace Go.Proofs.Ytldleojipogcmaa.fl
open Go.RowKit
set_option linter.unusedVariables false
set_option linter.unusedSimpArgs false

theorem run_eql_nil (w : World) (a : Option Addr) (l c : Nat) : (binOp .eql 34 (.slice a l c) (.slice none 0 0)).run Try.prog w = .ok (.bool a.isNone) w := by
  simp only [binOp]
  simp [run_equal_slice_nil w 34 3 a l c Try.underlying34]
def RetI (w : World) (xs : List Int) (e : Ending) (w' : World) : Prop := ∃ A c, e = .returned (.slice A xs.length c) ∧ OI w' w.heap.size (.slice A xs.length c) xs ∧ Below w.heap.size w w'
set_option maxHeartbeats 2000000 in
theorem clone_any {w : World} {lo : Nat} {v : Value} {xs : List Int} (h : OI w lo v xs) (hm : xs.length ≤ 1000000) : Calls Try.prog 20 #[v] w (RetI w xs) := by
  obtain ⟨i0, hi, hz0, hz1, hz2⟩ := info_parts info_i
  have hq := run_eql_nil
  obtain ⟨A, c, rfl⟩ := h.form
  obtain ⟨n, hn⟩ : ∃ n, xs.length = n := ⟨_, rfl⟩
  cases A with
  | none =>
    have hx : xs = [] := by
      rcases h.2 with ⟨_, h2⟩ | ⟨g, cap, cur, h1, _⟩
      · exact List.eq_nil_of_length_eq_zero h2
      · cases h1
    subst hx
    have HF := Lib.hid (show RetI w [] (.returned (.slice none 0 0)) w from ⟨none, 0, rfl, World.ownsRow_nil _ _ _ _, Below.refl _ _⟩)
    clear hi hz0 hz1 hz2 h
    go_enter Try.func20, Try.ntmps20
    go_wp2_with fail
    go_ret
    exact HF.out
  | some ad =>
    obtain ⟨gb, hg, hgl, hcells⟩ : ∃ gb, ad = ⟨gb, 0, none⟩ ∧ gb < w.heap.size ∧ ∀ j u, (encI xs)[j]? = some u → w.cell? ⟨gb, j, none⟩ = some u := by
      rcases h.2 with ⟨h1, h2⟩ | ⟨g, cap, cur, h1, hb2, h3, _⟩
      · cases h1
      · injection h1 with h1 h4 h5
        injection h1 with h1
        subst h5
        refine ⟨g, h1, (Array.getElem?_eq_some_iff.1 h3).1, fun j u hj => ?_⟩
        subst h1
        have hj2 : j < (encI xs).length := (List.getElem?_eq_some_iff.1 hj).1
        unfold OI at h
        rw [h.cellAt j (by rw [encI_len] at hj2; omega)]; exact hj
    subst hg
    have HO := Lib.hid (show (w.alloc (.cells #[] 3)).ownsRow w.heap.size 3 1 (.slice (some ⟨w.heap.size, 0, none⟩) 0 0) 0 [] from ⟨rfl, .inr ⟨w.heap.size, 0, #[], rfl, Nat.le_refl _, heap_alloc_new w _, Nat.le_refl _, by unfold maxLen; omega, rfl, rfl⟩⟩)
    have HX := Lib.hid (fun ob => (show ∀ j u, (encI xs)[j]? = some u → (w.alloc ob).cell? ((⟨gb, 0, none⟩ : Addr).add j) = some u from fun j u hj => by
      rw [Addr.add_mid, Nat.zero_add]
      rw [(below_alloc w ob).cell (p := ⟨gb, j, none⟩) hgl]
      exact hcells j u hj))
    have H1 := Lib.hid (show ∀ u ∈ encI xs, u.oneCell' = true from fun u hu => by simp [encI] at hu; obtain ⟨_, _, rfl⟩ := hu; rfl)
    have HL := Lib.hid (show (encI xs).length = xs.length * 1 by rw [encI_len]; omega)
    have HM := Lib.hid hm
    by_cases h0 : xs = []
    · subst h0
      simp only [List.length_nil] at *
      have HF := Lib.hid (fun ob (hob : ob = Obj.cells #[] 3 (0, 0)) => (show RetI w [] (.returned (.slice (some ⟨w.heap.size, 0, none⟩) 0 0)) (w.alloc ob) from ⟨some ⟨w.heap.size, 0, none⟩, 0, rfl, by subst hob; exact HO.out, below_alloc _ _⟩))
      clear h hi hz0 hz1 hz2 hcells hn
      go_enter Try.func20, Try.ntmps20
      go_wp2_with fail
      go_ret
      exact HF.out _ rfl
    · have hpos : 0 < n := by rw [← hn]; exact List.length_pos_iff.2 h0
      have HF := Lib.hid (fun v' (w' : World) ob (ho : w'.ownsRow w.heap.size 3 1 v' (0 + n) ([] ++ encI xs)) (hg : (w.alloc ob).grownBy w' (Value.slice (some ⟨w.heap.size, 0, none⟩) 0 0).ownBlock) => (show RetI w xs (.returned v') w' by
        rw [List.nil_append, Nat.zero_add, ← hn] at ho
        have ho2 : OI w' w.heap.size v' xs := ho
        obtain ⟨A', c', rfl⟩ := ho2.form
        exact ⟨A', c', rfl, ho2, (below_alloc w ob).grown hg (by simp) (fun g e => by simp [Value.ownBlock] at e; omega)⟩))
      have HI := Lib.hid hi
      have HZ := Lib.hid (show i0.zero = some (.int .i64 0) ∧ i0.size = 1 ∧ i0.bytes = 8 from ⟨hz0, hz1, hz2⟩)
      rw [hn] at HL HM ⊢
      clear h hi hz0 hz1 hz2 hcells hm hn
      go_enter Try.func20, Try.ntmps20
      go_wp2_with (at_builtin; refine wpList_append_own _ rfl (.tmp 5) (.tmp 6) 34 rfl w.heap.size 3 i0 _ 1 8 Try.underlying34 HI.out HZ.out.1 HZ.out.2.1 HZ.out.2.2 rfl (by decide) _ 0 _ rfl HO.out ⟨gb, 0, none⟩ n c (encI xs) rfl HL.out (HX.out _) H1.out (by have := HM.out; unfold maxLen; omega) (by have := HM.out; omega) (by simp) ?_; intro v1 w3 hown1 hgrow1 _)
      go_ret
      exact HF.out _ _ _ hown1 hgrow1
section
variable {w0 w : World} {P A B C : Nat} {tg : Nat → Tag} {f : Int → Option Value} {s : Fs}
theorem TX.lookA1 (h : TX w0 w P A B C tg f s) {a : Int} (ha : Wf a) : (Instr.lookup 50 (.map (some A)) (.int .i64 a) false).run Try.prog w = .ok ((f a).getD FZ) w := by
  obtain ⟨n, S, _, hm⟩ := h.mA
  exact hm.look Try.underlying50 (zeroF w) ha
theorem TX.few (h : TX w0 w P A B C tg f s) (k : Int) : (s.joined k).length ≤ s.N := by
  unfold Fs.joined
  cases e : s.fl k with
  | none => exact Nat.zero_le _
  | some p => exact (h.wf k p.1 p.2 e).2.2.2
theorem field1 (x : Int) (Q : Option Addr) (m c : Nat) (W : World) : (Instr.field 55 (.agg #[.int .i64 x, .slice Q m c]) 1).run Try.prog W = .ok (.slice Q m c) W := by kernel_rfl
set_option maxHeartbeats 1000000 in
theorem joined_any (h : TX w0 w P A B C tg f s) (hN : s.N ≤ 1000000) {a : Int} (ha : Wf a) : Calls Try.prog 16 #[Pq P, .int .i64 a] w (RetI w (s.joined a)) := by
  have p0 := h.p0
  have hA := h.lookA1 ha
  obtain ⟨sv, hv, ho, ht⟩ := (h.row a).get
  have hf := h.few a
  rw [hv] at hA
  have HC := Lib.hid (clone_any ho (by unfold Fs.joined at hf; omega))
  have HJ := Lib.hid (show s.joined a = ((s.fl a).getD (0, [])).2 from rfl)
  rw [HJ.out]
  obtain ⟨Q, c, rfl⟩ := ho.form
  generalize ((s.fl a).getD (0, [])).1 = x at *
  generalize ((s.fl a).getD (0, [])).2 = xs at *
  generalize xs.length = m at *
  have hfd := field1 x Q m c
  clear h ha hv ho ht hf HJ
  go_enter Try.func16, Try.ntmps16
  go_wp2_with fail
  refine HC.out.mono ?_
  rintro e w2 ⟨A2, c2, rfl, ho2, hb2⟩
  go_wp2_with fail
  go_ret
  exact ⟨A2, c2, rfl, ho2, hb2⟩
end
end Go.Proofs.Ytldleojipogcmaa.fl
