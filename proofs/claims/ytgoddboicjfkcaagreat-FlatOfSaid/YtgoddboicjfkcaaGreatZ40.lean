/- Part 40 of what is known of the program's functions and of the document's words: contracts, and the mathematics beneath them. -/
import Derived.Test.YtgoddboicjfkcaaGreatProg
import Derived.Test.YtgoddboicjfkcaaGreatZ30
import Derived.Test.YtgoddboicjfkcaaGreatZ39
set_option linter.unusedVariables false
set_option linter.unusedSimpArgs false
set_option maxRecDepth 100000
set_option maxHeartbeats 8000000
namespace Go.Proofs.YtgoddboicjfkcaaGreat.fl
open Go.RowKit
open dn (En lget lset ldel nerr dotB Sorted lessB)
open br (BS Ino Inv Tree sumF fresh)
open mg (Nd opq kindV lstV belV seenV pairV getV rootV AllV)
theorem sorted_ex (Q : ByteArray → Prop) : ∀ C : List ByteArray, ∃ L : List En, Sorted L ∧ ∀ s, (∃ v, (s, v) ∈ L) ↔ (s ∈ C ∧ Q s)
 | [] => ⟨[], List.Pairwise.nil, fun s => by simp⟩
 | c :: C => by
  obtain ⟨L, hL, hm⟩ := sorted_ex Q C
  by_cases hc : Q c
  ·refine ⟨lset c 0 L, dn.lset_sorted hL, fun s => ?_⟩
   constructor
   ·rintro ⟨v, hv⟩
    rcases (dn.lset_mem hL _).1 hv with e | ⟨e, _⟩
    ·injection e with e1 e2
     rw [e1]; exact ⟨List.mem_cons_self, hc⟩
    ·have := (hm s).1 ⟨v, e⟩
     exact ⟨List.mem_cons_of_mem _ this.1, this.2⟩
   ·rintro ⟨hs, hq⟩
    by_cases e : s = c
    ·exact ⟨0, (dn.lset_mem hL _).2 (.inl (by rw [e]))⟩
    ·rcases List.mem_cons.1 hs with h | h
     ·exact absurd h e
     ·obtain ⟨v, hv⟩ := (hm s).2 ⟨h, hq⟩
      exact ⟨v, (dn.lset_mem hL _).2 (.inr ⟨hv, e⟩)⟩
  ·refine ⟨L, hL, fun s => ?_⟩
   rw [hm s]
   constructor
   ·rintro ⟨a, b⟩; exact ⟨List.mem_cons_of_mem _ a, b⟩
   ·rintro ⟨a, b⟩
    rcases List.mem_cons.1 a with h | h
    ·exact absurd (h ▸ b) hc
    ·exact ⟨h, b⟩
theorem got_mem {S : BS} {room : Nat} (hI : Inv S room) {d : Int} {s : ByteArray} (h : got S d s ≠ 0) : s ∈ (S.all d).1.map (·.1) := by
 unfold got at h
 split at h
 ·rename_i e
  obtain ⟨D, rfl, h1, h2, h3, h4⟩ := br.get_ok e
  have hm := (dn.lget_some (hI.sorted D)).1 h4
  refine List.mem_map.2 ⟨(s, (S.get (D : Int) s).1), ?_, rfl⟩
  unfold BS.all
  rw [if_neg, br.at_nat]
  ·exact hm
  ·unfold BS.dirE BS.isI
   rw [br.at_nat, decide_eq_true ⟨by omega, by omega, by rw [h3]; decide⟩, h3]
   simp
 ·exact absurd rfl h
theorem allV_ex {U L : BS} {r1 r2 : Nat} (hU : Inv U r1) (hL : Inv L r2) (n : Nd) : ∃ l, AllV U L n l := by
 obtain ⟨L0, hs, hm⟩ := sorted_ex (fun s => (getV U L n s).2 = 0) ((U.all n.1).1.map (·.1) ++ (L.all n.2).1.map (·.1))
 refine ⟨L0.map (·.1), by rw [List.pairwise_map]; exact hs, fun s => ?_⟩
 rw [List.mem_map]
 constructor
 ·rintro ⟨⟨a, v⟩, h1, h2⟩
  dsimp only at h2
  rw [← h2]
  exact ((hm a).1 ⟨v, h1⟩).2
 ·intro h
  have h1 := wN_step hU hL n s h
  have h2 : s ∈ (U.all n.1).1.map (·.1) ++ (L.all n.2).1.map (·.1) := by
   rw [List.mem_append]
   by_cases e : got U n.1 s = 0
   ·exact .inr (got_mem hL (by omega))
   ·exact .inl (got_mem hU e)
  obtain ⟨v, hv⟩ := (hm s).2 ⟨h2, h⟩
  exact ⟨(s, v), hv, rfl⟩
theorem allV_is {U L : BS} {n : Nd} {r1 r2 : Nat} {l : List ByteArray} (hU : Inv U r1) (hL : Inv L r2) (hl : lstV U L n = 0) (h : AllV U L n l) (l0 : List ByteArray) (r0 : l0.Pairwise fun a b => lessB a b = true) (h1 : ∀ s, s ∈ l0 → (getV U L n s).2 = 0)
  (h2 : ((U.all n.1).1 ++ (L.all (belV U n)).1).all (fun e => l0.any (fun x => decide (x = e.1)) || decide ((getV U L n e.1).2 ≠ 0)) = true) : l = l0 := by
 refine mg.rise_ext h.rise r0 fun s => ⟨fun hs => ?_, fun hs => (h.mem s).2 (h1 s hs)⟩
 have hg := (h.mem s).1 hs
 obtain ⟨p, e, _⟩ := (mg.seen_names hU hL n s hl).1 hg
 unfold mg.pairF at e
 rw [mg.fold2 _ _ _ (mg.all_sorted hL _), mg.fold1 _ _ _ (mg.all_sorted hU _)] at e
 have hm : ∃ v, (s, v) ∈ (U.all n.1).1 ++ (L.all (belV U n)).1 := by
  cases e1 : lget s (L.all (belV U n)).1 with
  | some v => exact ⟨v, List.mem_append.2 (.inr ((dn.lget_some (mg.all_sorted hL _)).1 e1))⟩
  | none =>
   rw [e1] at e
   cases e2 : lget s (U.all n.1).1 with
   | some v => exact ⟨v, List.mem_append.2 (.inl ((dn.lget_some (mg.all_sorted hU _)).1 e2))⟩
   | none => rw [e2] at e; cases e
 obtain ⟨v, hv⟩ := hm
 have h4 := List.all_eq_true.1 h2 (s, v) hv
 simp only [Bool.or_eq_true, decide_eq_true_eq, List.any_eq_true] at h4
 rcases h4 with ⟨x, hx, h3⟩ | h3
 ·exact h3 ▸ hx
 ·exact absurd hg h3
theorem names_is {U L : BS} {n : Nd} {r1 r2 : Nat} (hU : Inv U r1) (hL : Inv L r2) (hl : lstV U L n = 0) (l0 : List ByteArray) (r0 : l0.Pairwise fun a b => lessB a b = true) (h1 : ∀ s, s ∈ l0 → (getV U L n s).2 = 0)
  (h2 : ((U.all n.1).1 ++ (L.all (belV U n)).1).all (fun e => l0.any (fun x => decide (x = e.1)) || decide ((getV U L n e.1).2 ≠ 0)) = true) : namesV U L n = l0 := by
 obtain ⟨l, h⟩ := allV_ex hU hL n
 rw [namesV_eq h]
 exact allV_is hU hL hl h l0 r0 h1 h2
theorem names_no {U L : BS} {n : Nd} (hl : lstV U L n ≠ 0) : namesV U L n = [] := namesV_eq (AllV.none hl)
abbrev yA : ByteArray := ⟨#[47, 97]⟩
abbrev yB : ByteArray := ⟨#[47, 97, 47, 98]⟩
abbrev yC : ByteArray := ⟨#[47, 99]⟩
abbrev yX : ByteArray := ⟨#[120]⟩
abbrev y1 : ByteArray := ⟨#[97]⟩
abbrev y2 : ByteArray := ⟨#[98]⟩
abbrev y3 : ByteArray := ⟨#[99]⟩
def zl : List Ln := [⟨yA, 2, ⟨#[]⟩⟩, ⟨yB, 1, yX⟩, ⟨yC, 3, y1⟩]
def z1 : List Ln := [⟨yB, 1, yX⟩]
def aS : BS := (treeF 9 fresh zl).getD fresh
theorem aS_some : (treeF 9 fresh zl).isSome = true := by decide +kernel
theorem aS_is : treeF 9 fresh zl = some aS := by
 unfold aS
 cases h : treeF 9 fresh zl with
 | some S => rfl
 | none => have := aS_some; rw [h] at this; cases this
theorem z1_none : (treeF 9 fresh z1).isNone = true := by decide +kernel
theorem z1_place : (placeM fresh yB).2 = 2 := by decide +kernel
theorem aS_root : rootV aS fresh 1 1 = (1, 1) := by decide +kernel
theorem aS_l0 : lstV aS fresh (1, 1) = 0 := by decide +kernel
theorem aS_g1 : getV aS fresh (1, 1) y1 = ((2, 0), 0) := by decide +kernel
theorem aS_g3 : getV aS fresh (1, 1) y3 = ((4, 0), 0) := by decide +kernel
theorem aS_l2 : lstV aS fresh (2, 0) = 0 := by decide +kernel
theorem aS_g2 : getV aS fresh (2, 0) y2 = ((3, 0), 0) := by decide +kernel
theorem aS_l3 : lstV aS fresh (3, 0) ≠ 0 := by decide +kernel
theorem aS_l4 : lstV aS fresh (4, 0) ≠ 0 := by decide +kernel
theorem aS_k : kindV aS fresh (2, 0) = 2 ∧ kindV aS fresh (3, 0) = 1 ∧ kindV aS fresh (4, 0) = 3 := by decide +kernel
theorem aS_c : contV aS fresh (2, 0) = ⟨#[]⟩ ∧ contV aS fresh (3, 0) = yX ∧ contV aS fresh (4, 0) = y1 := by decide +kernel
theorem aS_names0 {r1 r2 : Nat} (hU : Inv aS r1) (hL : Inv fresh r2) : namesV aS fresh (1, 1) = [y1, y3] :=
 names_is hU hL aS_l0 _ (by decide +kernel) (by decide +kernel) (by decide +kernel)
theorem aS_names2 {r1 r2 : Nat} (hU : Inv aS r1) (hL : Inv fresh r2) : namesV aS fresh (2, 0) = [y2] :=
 names_is hU hL aS_l2 _ (by decide +kernel) (by decide +kernel) (by decide +kernel)
theorem lines_at {U L : BS} {d : Nat} {n : Nd} {at_ : ByteArray} {l : List ByteArray} (h : namesV U L n = l) : linesV U L (d + 1) n at_ = l.flatMap (linesN U L d n at_) := by
 unfold linesV; rw [h]; rfl
theorem aS_of {r1 r2 : Nat} (hU : Inv aS r1) (hL : Inv fresh r2) : ofV aS fresh 1 1 = zl := by
 unfold ofV
 rw [aS_root]
 have e3 : ∀ d t, linesV aS fresh (d + 1) (3, 0) t = [] := fun d t => by rw [lines_at (names_no aS_l3)]; rfl
 have e4 : ∀ d t, linesV aS fresh (d + 1) (4, 0) t = [] := fun d t => by rw [lines_at (names_no aS_l4)]; rfl
 rw [show (202 : Nat) = 199 + 1 + 1 + 1 from rfl, lines_at (aS_names0 hU hL)]
 simp only [List.flatMap_cons, List.flatMap_nil, List.append_nil, linesN, aS_g1, aS_g3]
 rw [lines_at (aS_names2 hU hL), e4]
 simp only [List.flatMap_cons, List.flatMap_nil, List.append_nil, linesN, aS_g2]
 rw [e3, aS_k.1, aS_k.2.1, aS_k.2.2, aS_c.1, aS_c.2.1, aS_c.2.2]
 exact sameLs_iff.1 (by decide +kernel)
theorem z_text : textV z1 = ⟨#[47, 97, 47, 98, 0, 49, 120, 0, 10]⟩ := by decide +kernel
theorem z_sz : (textB z1).length ≤ 9000000 := by decide +kernel
theorem z_same : sameLs zl zl = true := sameLs_iff.2 rfl
theorem z_diff : sameLs zl (zl.drop 1) = false := by decide +kernel
end Go.Proofs.YtgoddboicjfkcaaGreat.fl
