/- One flight that is joined, lands, and is asked for: the mathematics of FlightOrder. -/
import Derived.Test.YtldleojipogcmaaNq
namespace Go.Proofs.Ytldleojipogcmaa.fl
open Go.RowKit
set_option linter.unusedVariables false
set_option linter.unusedSimpArgs false

theorem TY.turn_over {w0 w w' : World} {P : Nat} {X F : Nat → Prop} {s : Fs} (h : TY w0 w P X s) (ho : Only F w w') (hF : ∀ b, F b → X b ∧ w0.heap.size ≤ b) : TY w0 w' P (fun b => X b ∨ (w.heap.size ≤ b ∧ b < w'.heap.size)) s := by
  obtain ⟨A, B, C, tg, f, h1, hx⟩ := h
  refine ⟨A, B, C, tg, f, h1.apart ho (fun b hb => ⟨(hF b hb).2, (hx b (hF b hb).1).2⟩), fun b hb2 => ?_⟩
  rcases hb2 with h3 | ⟨h3, h4⟩
  · exact ⟨Nat.lt_of_lt_of_le (hx b h3).1 ho.size, (hx b h3).2⟩
  · refine ⟨h4, Classical.byContradiction fun e => ?_⟩
    have := (h1.own b e).2
    omega
/-- The flight of those who have come, in their order. -/
def headS : List Int → Option (Int × List Int)
  | [] => none
  | o :: r => some (o, r)
def mkS (kz : Int) (os : List Int) : Fs := ⟨upf (fun _ => none) kz (headS os), fun a => decide (a ∈ os), fun _ => none, os.length, 0⟩
theorem mkS_fl (kz : Int) (os : List Int) : (mkS kz os).fl kz = headS os := by show upf (fun _ => none) kz (headS os) kz = headS os; exact upf_self _ _ _
theorem mkS_nil (kz : Int) : mkS kz [] = Fs.new := by
  unfold mkS Fs.new headS upf
  simp
theorem mkS_busy (kz : Int) (os : List Int) (a : Int) : (mkS kz os).busy a = decide (a ∈ os) := by
  unfold Fs.busy mkS
  simp
theorem mkS_in {kz : Int} {os : List Int} {a : Int} (h : a ∈ os) : (mkS kz os).join kz a = (false, 16, mkS kz os) := by
  unfold Fs.join
  rw [mkS_busy, if_pos (by simpa using h)]
theorem upf_upf {α : Type} (f : Int → α) (a : Int) (u v : α) : upf (upf f a u) a v = upf f a v := by
  funext x; unfold upf; split <;> rfl
theorem mkS_out {kz : Int} {os : List Int} {a : Int} (h : a ∉ os) : (mkS kz os).join kz a = (decide (os.length = 0), 0, mkS kz (os ++ [a])) := by
  unfold Fs.join
  rw [mkS_busy, if_neg (by simpa using h)]
  have hfl := mkS_fl kz os
  rw [hfl]
  have h1 : (!(headS os).isSome) = decide (os.length = 0) := by cases os <;> simp [headS]
  have h2 : (mkS kz os).come kz a = mkS kz (os ++ [a]) := by
    unfold Fs.come
    rw [hfl]
    have e1 : upf (mkS kz os).fl kz (some (more (headS os) a)) = upf (fun _ => none) kz (headS (os ++ [a])) := by
      show upf (upf _ _ _) _ _ = _
      rw [upf_upf]
      cases os <;> rfl
    have e2 : upf (mkS kz os).ab a true = fun x => decide (x ∈ os ++ [a]) := by
      funext x
      unfold upf
      by_cases e : x = a
      · subst e; simp
      · simp [e, mkS]
    rw [e1, e2]
    unfold mkS
    simp
  rw [h1, h2]
theorem mkS_N (kz : Int) (os : List Int) : (mkS kz os).N = os.length ∧ (mkS kz os).K = 0 := ⟨rfl, rfl⟩
theorem mkS_lead (kz : Int) : (mkS kz []).lead kz = (0, false) := by rw [mkS_nil]; rfl
theorem mkS_joined (kz o : Int) (r : List Int) : (mkS kz (o :: r)).joined kz = r := by
  unfold Fs.joined
  rw [mkS_fl]; rfl
/-- It has landed; the results of the first j have been asked for. -/
def dnS (r : List Int) (e : Int) (j N K : Nat) : Fs := ⟨fun _ => none, fun _ => false, fun a => if a ∈ r.drop j then some e else none, N, K⟩
theorem mkS_land (kz o e : Int) (r : List Int) (h : (o :: r).Nodup) : (mkS kz (o :: r)).land kz o e = (r, 0, dnS r e 0 (r.length + 1) r.length) := by
  unfold Fs.land
  rw [mkS_fl, show headS (o :: r) = some (o, r) from rfl]
  dsimp only
  rw [if_pos rfl]
  unfold Fs.told dnS mkS
  dsimp only
  rw [upf_upf, show upf (fun _ => none) kz none = fun _ => (none : Option (Int × List Int)) by funext x; unfold upf; split <;> rfl]
  have e1 : (fun a => decide (a ∈ o :: r) && !decide (a = o) && !decide (a ∈ r)) = fun _ => false := by
    funext a
    by_cases h1 : a = o
    · simp [h1]
    · by_cases h2 : a ∈ r <;> simp [h1, h2]
  rw [e1]
  simp
theorem drop_cons' {r : List Int} {j : Nat} (hj : j < r.length) : r.drop j = r.getD j 0 :: r.drop (j + 1) := by
  rw [List.drop_eq_getElem_cons hj]
  simp [List.getD, List.getElem?_eq_getElem hj]
theorem dnS_res {r : List Int} {e : Int} {j N K : Nat} (hj : j < r.length) (hn : r.Nodup) : (dnS r e j N K).result (r.getD j 0) = (e, true, dnS r e (j + 1) N K) ∧ (dnS r e (j + 1) N K).busy (r.getD j 0) = false := by
  have hd := drop_cons' hj
  have hnd : (r.drop j).Nodup := hn.sublist (List.drop_sublist _ _)
  rw [hd] at hnd
  have hno := (List.nodup_cons.1 hnd).1
  refine ⟨?_, ?_⟩
  · unfold Fs.result dnS
    dsimp only
    rw [hd]
    have e1 : upf (fun a => if a ∈ r.getD j 0 :: r.drop (j + 1) then some e else none) (r.getD j 0) none = fun a => if a ∈ r.drop (j + 1) then some e else none := by
      funext a
      unfold upf
      by_cases h1 : a = r.getD j 0
      · rw [if_pos h1, if_neg (by rw [h1]; exact hno)]
      · rw [if_neg h1]; simp only [List.mem_cons, h1, false_or]
    rw [e1]
    simp
  · unfold Fs.busy dnS
    dsimp only
    rw [if_neg hno]; rfl
theorem dnS_end (r : List Int) (e : Int) (N K : Nat) (a : Int) : (dnS r e r.length N K).busy a = false := by
  unfold Fs.busy dnS
  simp
def seenF (os : List Int) : Int → Option Value := fun a => if a ∈ os then some (.bool true) else none
theorem seen_in {os : List Int} {a : Int} (h : a ∈ os) : ups (seenF os) a (.bool true) = seenF os ∧ (seenF os a).getD (.bool false) = .bool true := by
  refine ⟨?_, by simp [seenF, h]⟩
  funext x; unfold ups seenF; by_cases e : x = a <;> simp [e, h]
theorem seen_out {os : List Int} {a : Int} (h : a ∉ os) : ups (seenF os) a (.bool true) = seenF (os ++ [a]) ∧ (seenF os a).getD (.bool false) = .bool false := by
  refine ⟨?_, by simp [seenF, h]⟩
  funext x; unfold ups seenF; by_cases e : x = a <;> simp [e]
theorem keys_nil {ks : List Int} (h : ∀ k : Int, k ∈ ks ↔ false = true) : ks = [] := by
  cases ks with
  | nil => rfl
  | cons a r => exact absurd ((h a).1 (by simp)) (by simp)
theorem sizeI (W : World) : (sizeOf (Try.prog.elem 34)).run Try.prog W = .ok 1 W := by kernel_rfl
/-- The first one off. -/
theorem run_tail (g0 o0 q c : Nat) (hl : q + 1 ≤ c) : ∃ ad' c', (∀ W, (Instr.slice 34 (.slice (some ⟨g0, o0, none⟩) (q + 1) c) (some (.int .i64 1)) none none).run Try.prog W = .ok (.slice (some ad') q c') W) ∧ (∀ W, (Instr.sliceAt 34 (.slice (some ⟨g0, o0, none⟩) (q + 1) c) (some (.int .i64 1)) none none).run Try.prog W = .ok (.slice (some ad') q c') W) ∧ ((q = 0 ∨ ad' = ⟨g0, o0 + 1, none⟩) ∧ q ≤ c') := by
  have h1 : ∀ W, (Instr.slice 34 (.slice (some ⟨g0, o0, none⟩) (q + 1) c) (some (.int .i64 1)) none none).run Try.prog W = .ok (.slice (some (if c = 1 then ⟨g0, o0, none⟩ else ⟨g0, o0 + 1, none⟩)) q (c - 1)) W := fun W => by
    rw [run_slice_l (P := Try.prog) W 34 _ _ _ (by kernel_rfl) .i64 1 (by decide) (by omega), sizeI]
    by_cases hc : c = 1 <;> simp [Result.andThen, sliced, hc, Addr.add]
  refine ⟨if c = 1 then ⟨g0, o0, none⟩ else ⟨g0, o0 + 1, none⟩, c - 1, h1, fun W => ?_, ?_, by omega⟩
  · rw [run_sliceAt_slice (P := Try.prog) W 34 _ _ _ _ (by kernel_rfl)]; exact h1 W
  · by_cases hc : c = 1
    · exact .inl (by omega)
    · rw [if_neg hc]; exact .inr rfl
theorem IR.tail {w : World} {g0 o0 q : Nat} {x : Int} {L : List Int} {ad' : Addr} (h : IR w (some ⟨g0, o0, none⟩) (q + 1) (x :: L)) (ha : q = 0 ∨ ad' = ⟨g0, o0 + 1, none⟩) : IR w (some ad') q L := by
  have hl : q = L.length := by have := h.1; simpa using this
  refine ⟨hl, fun j hj => ?_⟩
  obtain ⟨gg, o, e, hlt, hc⟩ := h.2 (j + 1) (by omega)
  injection e with e
  injection e with e1 e2
  subst e1; subst e2
  rcases ha with h0 | h0
  · omega
  · refine ⟨g0, o0 + 1, by rw [h0], hlt, ?_⟩
    rw [show o0 + 1 + j = o0 + (j + 1) by omega, hc]
    rfl
end Go.Proofs.Ytldleojipogcmaa.fl
