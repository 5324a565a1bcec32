/- What the awake calls come to; mathematics. The awake calls, walked. Lines that came in, opened. -/
import Derived.Test.YtnnaoldpacbagaaGreatZ29
import Derived.Test.YtnnaoldpacbagaaGreatZ31
import Derived.Test.YtnnaoldpacbagaaGreatZ22
section
namespace Go.Proofs.YtnnaoldpacbagaaGreat.fl
open Go.RowKit
open Go.Proofs.YtnnaoldpacbagaaGreat.dn (En lget lset ldel nerr dotB Sorted lessB)
open Go.Proofs.YtnnaoldpacbagaaGreat.br (BS Ino Inv Tree sumF fresh)
open Go.Proofs.YtnnaoldpacbagaaGreat.mg (Nd opq kindV lstV belV seenV pairV getV rootV AllV)
set_option linter.unusedVariables false
set_option linter.unusedSimpArgs false

theorem sorted_ex (Q : ByteArray → Prop) : ∀ C : List ByteArray, ∃ L : List En, Sorted L ∧ ∀ s, (∃ v, (s, v) ∈ L) ↔ (s ∈ C ∧ Q s)
  | [] => ⟨[], List.Pairwise.nil, fun s => by simp⟩
  | c :: C => by
    obtain ⟨L, hL, hm⟩ := sorted_ex Q C
    by_cases hc : Q c
    · refine ⟨lset c 0 L, dn.lset_sorted hL, fun s => ?_⟩
      constructor
      · rintro ⟨v, hv⟩
        rcases (dn.lset_mem hL _).1 hv with e | ⟨e, _⟩
        · injection e with e1 e2
          rw [e1]; exact ⟨List.mem_cons_self, hc⟩
        · have := (hm s).1 ⟨v, e⟩
          exact ⟨List.mem_cons_of_mem _ this.1, this.2⟩
      · rintro ⟨hs, hq⟩
        by_cases e : s = c
        · exact ⟨0, (dn.lset_mem hL _).2 (.inl (by rw [e]))⟩
        · rcases List.mem_cons.1 hs with h | h
          · exact absurd h e
          · obtain ⟨v, hv⟩ := (hm s).2 ⟨h, hq⟩
            exact ⟨v, (dn.lset_mem hL _).2 (.inr ⟨hv, e⟩)⟩
    · refine ⟨L, hL, fun s => ?_⟩
      rw [hm s]
      constructor
      · rintro ⟨a, b⟩; exact ⟨List.mem_cons_of_mem _ a, b⟩
      · rintro ⟨a, b⟩
        rcases List.mem_cons.1 a with h | h
        · exact absurd (h ▸ b) hc
        · exact ⟨h, b⟩
theorem got_mem {S : BS} {room : Nat} (hI : Inv S room) {d : Int} {s : ByteArray} (h : got S d s ≠ 0) : s ∈ (S.all d).1.map (·.1) := by
  unfold got at h
  split at h
  · rename_i e
    obtain ⟨D, rfl, h1, h2, h3, h4⟩ := br.get_ok e
    have hm := (dn.lget_some (hI.sorted D)).1 h4
    refine List.mem_map.2 ⟨(s, (S.get (D : Int) s).1), ?_, rfl⟩
    unfold BS.all
    rw [if_neg, br.at_nat]
    · exact hm
    · unfold BS.dirE BS.isI
      rw [br.at_nat, decide_eq_true ⟨by omega, by omega, by rw [h3]; decide⟩, h3]
      simp
  · exact absurd rfl h
theorem allV_ex {U L : BS} {r1 r2 : Nat} (hU : Inv U r1) (hL : Inv L r2) (n : Nd) : ∃ l, AllV U L n l := by
  obtain ⟨L0, hs, hm⟩ := sorted_ex (fun s => (getV U L n s).2 = 0) ((U.all n.1).1.map (·.1) ++ (L.all n.2).1.map (·.1))
  refine ⟨L0.map (·.1), by rw [List.pairwise_map]; exact hs, fun s => ?_⟩
  rw [List.mem_map]
  constructor
  · rintro ⟨⟨a, v⟩, h1, h2⟩
    dsimp only at h2
    rw [← h2]
    exact ((hm a).1 ⟨v, h1⟩).2
  · intro h
    have h1 := wN_step hU hL n s h
    have h2 : s ∈ (U.all n.1).1.map (·.1) ++ (L.all n.2).1.map (·.1) := by
      rw [List.mem_append]
      by_cases e : got U n.1 s = 0
      · exact .inr (got_mem hL (by omega))
      · exact .inl (got_mem hU e)
    obtain ⟨v, hv⟩ := (hm s).2 ⟨h2, h⟩
    exact ⟨(s, v), hv, rfl⟩
theorem allV_is {U L : BS} {n : Nd} {r1 r2 : Nat} {l : List ByteArray} (hU : Inv U r1) (hL : Inv L r2) (hl : lstV U L n = 0) (h : AllV U L n l) (l0 : List ByteArray) (r0 : l0.Pairwise fun a b => lessB a b = true) (h1 : ∀ s, s ∈ l0 → (getV U L n s).2 = 0)
    (h2 : ((U.all n.1).1 ++ (L.all (belV U n)).1).all (fun e => l0.any (fun x => decide (x = e.1)) || decide ((getV U L n e.1).2 ≠ 0)) = true) : l = l0 := by
  refine mg.rise_ext h.rise r0 fun s => ⟨fun hs => ?_, fun hs => (h.mem s).2 (h1 s hs)⟩
  have hg := (h.mem s).1 hs
  obtain ⟨p, e, _⟩ := (mg.seen_names hU hL n s hl).1 hg
  unfold mg.pairF at e
  rw [mg.fold2 _ _ _ (mg.all_sorted hL _), mg.fold1 _ _ _ (mg.all_sorted hU _)] at e
  have hm : ∃ v, (s, v) ∈ (U.all n.1).1 ++ (L.all (belV U n)).1 := by
    cases e1 : lget s (L.all (belV U n)).1 with
    | some v => exact ⟨v, List.mem_append.2 (.inr ((dn.lget_some (mg.all_sorted hL _)).1 e1))⟩
    | none =>
      rw [e1] at e
      cases e2 : lget s (U.all n.1).1 with
      | some v => exact ⟨v, List.mem_append.2 (.inl ((dn.lget_some (mg.all_sorted hU _)).1 e2))⟩
      | none => rw [e2] at e; cases e
  obtain ⟨v, hv⟩ := hm
  have h4 := List.all_eq_true.1 h2 (s, v) hv
  simp only [Bool.or_eq_true, decide_eq_true_eq, List.any_eq_true] at h4
  rcases h4 with ⟨x, hx, h3⟩ | h3
  · exact h3 ▸ hx
  · exact absurd hg h3
theorem names_is {U L : BS} {n : Nd} {r1 r2 : Nat} (hU : Inv U r1) (hL : Inv L r2) (hl : lstV U L n = 0) (l0 : List ByteArray) (r0 : l0.Pairwise fun a b => lessB a b = true) (h1 : ∀ s, s ∈ l0 → (getV U L n s).2 = 0)
    (h2 : ((U.all n.1).1 ++ (L.all (belV U n)).1).all (fun e => l0.any (fun x => decide (x = e.1)) || decide ((getV U L n e.1).2 ≠ 0)) = true) : namesV U L n = l0 := by
  obtain ⟨l, h⟩ := allV_ex hU hL n
  rw [namesV_eq h]
  exact allV_is hU hL hl h l0 r0 h1 h2
theorem names_no {U L : BS} {n : Nd} (hl : lstV U L n ≠ 0) : namesV U L n = [] := namesV_eq (AllV.none hl)
abbrev yA : ByteArray := ⟨#[47, 97]⟩
abbrev yB : ByteArray := ⟨#[47, 97, 47, 98]⟩
abbrev yC : ByteArray := ⟨#[47, 99]⟩
abbrev yX : ByteArray := ⟨#[120]⟩
abbrev y1 : ByteArray := ⟨#[97]⟩
abbrev y2 : ByteArray := ⟨#[98]⟩
abbrev y3 : ByteArray := ⟨#[99]⟩
def zl : List Ln := [⟨yA, 2, ⟨#[]⟩⟩, ⟨yB, 1, yX⟩, ⟨yC, 3, y1⟩]
def z1 : List Ln := [⟨yB, 1, yX⟩]
def aS : BS := (treeF 9 fresh zl).getD fresh
theorem aS_some : (treeF 9 fresh zl).isSome = true := by decide +kernel
theorem aS_is : treeF 9 fresh zl = some aS := by
  unfold aS
  cases h : treeF 9 fresh zl with
  | some S => rfl
  | none => have := aS_some; rw [h] at this; cases this
theorem z1_none : (treeF 9 fresh z1).isNone = true := by decide +kernel
theorem z1_place : (placeM fresh yB).2 = 2 := by decide +kernel
theorem aS_root : rootV aS fresh 1 1 = (1, 1) := by decide +kernel
theorem aS_l0 : lstV aS fresh (1, 1) = 0 := by decide +kernel
theorem aS_g1 : getV aS fresh (1, 1) y1 = ((2, 0), 0) := by decide +kernel
theorem aS_g3 : getV aS fresh (1, 1) y3 = ((4, 0), 0) := by decide +kernel
theorem aS_l2 : lstV aS fresh (2, 0) = 0 := by decide +kernel
theorem aS_g2 : getV aS fresh (2, 0) y2 = ((3, 0), 0) := by decide +kernel
theorem aS_l3 : lstV aS fresh (3, 0) ≠ 0 := by decide +kernel
theorem aS_l4 : lstV aS fresh (4, 0) ≠ 0 := by decide +kernel
theorem aS_k : kindV aS fresh (2, 0) = 2 ∧ kindV aS fresh (3, 0) = 1 ∧ kindV aS fresh (4, 0) = 3 := by decide +kernel
theorem aS_c : contV aS fresh (2, 0) = ⟨#[]⟩ ∧ contV aS fresh (3, 0) = yX ∧ contV aS fresh (4, 0) = y1 := by decide +kernel
theorem aS_n0 : (([(y1, (2 : Int)), (y3, 4)] : List En)) = (aS.all 1).1 := by decide +kernel
theorem aS_names0 {r1 r2 : Nat} (hU : Inv aS r1) (hL : Inv fresh r2) : namesV aS fresh (1, 1) = [y1, y3] :=
  names_is hU hL aS_l0 _ (by decide +kernel) (by decide +kernel) (by decide +kernel)
theorem aS_names2 {r1 r2 : Nat} (hU : Inv aS r1) (hL : Inv fresh r2) : namesV aS fresh (2, 0) = [y2] :=
  names_is hU hL aS_l2 _ (by decide +kernel) (by decide +kernel) (by decide +kernel)
theorem lines_at {U L : BS} {d : Nat} {n : Nd} {at_ : ByteArray} {l : List ByteArray} (h : namesV U L n = l) : linesV U L (d + 1) n at_ = l.flatMap (linesN U L d n at_) := by
  unfold linesV; rw [h]; rfl
theorem aS_of {r1 r2 : Nat} (hU : Inv aS r1) (hL : Inv fresh r2) : ofV aS fresh 1 1 = zl := by
  unfold ofV
  rw [aS_root]
  have e3 : ∀ d t, linesV aS fresh (d + 1) (3, 0) t = [] := fun d t => by rw [lines_at (names_no aS_l3)]; rfl
  have e4 : ∀ d t, linesV aS fresh (d + 1) (4, 0) t = [] := fun d t => by rw [lines_at (names_no aS_l4)]; rfl
  rw [show (202 : Nat) = 199 + 1 + 1 + 1 from rfl, lines_at (aS_names0 hU hL)]
  simp only [List.flatMap_cons, List.flatMap_nil, List.append_nil, linesN, aS_g1, aS_g3]
  rw [lines_at (aS_names2 hU hL), e4]
  simp only [List.flatMap_cons, List.flatMap_nil, List.append_nil, linesN, aS_g2]
  rw [e3, aS_k.1, aS_k.2.1, aS_k.2.2, aS_c.1, aS_c.2.1, aS_c.2.2]
  exact sameLs_iff.1 (by decide +kernel)
theorem z_text : textV z1 = ⟨#[47, 97, 47, 98, 0, 49, 120, 0, 10]⟩ := by decide +kernel
theorem z_sz : (textB z1).length ≤ 9000000 := by decide +kernel
theorem z_same : sameLs zl zl = true := sameLs_iff.2 rfl
theorem z_diff : sameLs zl (zl.drop 1) = false := by decide +kernel
end Go.Proofs.YtnnaoldpacbagaaGreat.fl
end
section
namespace Go.Proofs.YtnnaoldpacbagaaGreat.fl
open Go.RowKit
open Go.Proofs.YtnnaoldpacbagaaGreat.br (BS Ino Inv Tree sumF fresh)
open Go.Proofs.YtnnaoldpacbagaaGreat.cb (BrX RetW RetI No)
open Go.Proofs.YtnnaoldpacbagaaGreat.bl (Pq)
open Go.Proofs.YtnnaoldpacbagaaGreat.mg (Nd Nv Vx bel_step bel_alloc BelowOf wp_region_below calls_below)
set_option linter.unusedVariables false
set_option linter.unusedSimpArgs false

def AwakeE (w : World) (e : Ending) (w' : World) : Prop := e = .returned (.bool true) ∧ Below w.heap.size w w'
theorem tree_zl {w w' : World} {e : Ending} (h : TreeE w zl 9 e w') : ∃ P : Nat, e = .returned (.tuple #[Pq P, .int .i64 0]) ∧ BrX w w' P (fun b => b < w.heap.size) aS 9 990 := by
  rcases h with ⟨h, _⟩ | ⟨R, hR, _, h⟩
  · omega
  · obtain rfl : R = 9 := by omega
    rcases h with ⟨err, _, h, _⟩ | ⟨P, S, h, h2, h3⟩
    · rw [aS_is] at h; cases h
    · rw [aS_is] at h; injection h with h; subst h
      exact ⟨P, h2, h3⟩
theorem tree_z1 {w w' : World} {e : Ending} (h : TreeE w z1 9 e w') : e = .returned (.tuple #[.pointer none, .int .i64 2]) ∧ Below w.heap.size w w' := by
  rcases h with ⟨h, _⟩ | ⟨R, hR, _, h⟩
  · omega
  · obtain rfl : R = 9 := by omega
    rcases h with ⟨err, _, _, hk, h, hb⟩ | ⟨P, S, h, h2, h3⟩
    · have := hk _ rfl (by show (placeM fresh yB).2 ≠ 0; rw [z1_place]; decide)
      rw [show (placeM fresh (⟨yB, 1, yX⟩ : Ln).path).2 = 2 from z1_place] at this
      rw [this] at h
      exact ⟨h, hb⟩
    · have := z1_none; rw [h] at this; cases this
theorem tree_nil {w w' : World} {e : Ending} (h : TreeE w [] 9 e w') : ∃ P : Nat, e = .returned (.tuple #[Pq P, .int .i64 0]) ∧ BrX w w' P (fun b => b < w.heap.size) fresh 9 990 := by
  rcases h with ⟨h, _⟩ | ⟨R, hR, _, h⟩
  · omega
  · obtain rfl : R = 9 := by omega
    rcases h with ⟨err, _, h, _⟩ | ⟨P, S, h, h2, h3⟩
    · cases h
    · injection h with h; subst h
      exact ⟨P, h2, h3⟩
theorem three {b : Nat} {w : World} (h : w.heap[b]? = some (.cells #[.string yA, .int .i64 2, .string ⟨#[]⟩, .string yB, .int .i64 1, .string yX, .string yC, .int .i64 3, .string y1] 79 (0, 0))) :
    LR w (b + 1) (some ⟨b, 0, none⟩) zl ∧ LR w (b + 1) (some ⟨b, 3, none⟩) z1 ∧ LR w (b + 1) (some ⟨b, 3, none⟩) (zl.drop 1) := by
  have c : ∀ j, w.cell? ⟨b, j, none⟩ = _ := fun j => Lib.cell_of_heap h j
  refine ⟨fun j x hx => ?_, fun j x hx => ?_, fun j x hx => ?_⟩
  · match j, hx with
    | 0, hx => injection hx with hx; subst hx; exact ⟨b, 0, rfl, Nat.lt_succ_self _, (c 0).trans rfl, (c 1).trans rfl, (c 2).trans rfl⟩
    | 1, hx => injection hx with hx; subst hx; exact ⟨b, 0, rfl, Nat.lt_succ_self _, (c 3).trans rfl, (c 4).trans rfl, (c 5).trans rfl⟩
    | 2, hx => injection hx with hx; subst hx; exact ⟨b, 0, rfl, Nat.lt_succ_self _, (c 6).trans rfl, (c 7).trans rfl, (c 8).trans rfl⟩
    | n + 3, hx => cases hx
  · match j, hx with
    | 0, hx => injection hx with hx; subst hx; exact ⟨b, 3, rfl, Nat.lt_succ_self _, (c 3).trans rfl, (c 4).trans rfl, (c 5).trans rfl⟩
    | n + 1, hx => cases hx
  · match j, hx with
    | 0, hx => injection hx with hx; subst hx; exact ⟨b, 3, rfl, Nat.lt_succ_self _, (c 3).trans rfl, (c 4).trans rfl, (c 5).trans rfl⟩
    | 1, hx => injection hx with hx; subst hx; exact ⟨b, 3, rfl, Nat.lt_succ_self _, (c 6).trans rfl, (c 7).trans rfl, (c 8).trans rfl⟩
    | n + 2, hx => cases hx
/-- Lines of an own row are read. -/
theorem LO.lr {w : World} {B : Nat} {A : Value} {X : List Ln} (h : LO w B A X) : ∃ A' c, A = .slice A' X.length c ∧ LR w w.heap.size A' X ∧ X.length ≤ c ∧ c ≤ maxLen := by
  rcases h.2 with ⟨hv, h0⟩ | ⟨g, cap, cur, hv, hb, hg, h1, h2, h3, h4⟩
  · refine ⟨none, 0, by rw [hv, h0], ?_, by omega, by unfold maxLen; omega⟩
    have : X = [] := List.eq_nil_of_length_eq_zero h0
    subst this
    exact fun j x hx => by cases hx
  · refine ⟨some ⟨g, 0, none⟩, cap, hv, fun j x hx => ?_, h1, h2⟩
    obtain ⟨k0, k1, k2⟩ := lcs_get hx
    have hj := (List.getElem?_eq_some_iff.1 hx).1
    have hc : ∀ i v, (lcs X)[i]? = some v → w.cell? ⟨g, i, none⟩ = some v := fun i v hi => by
      have hl := (List.getElem?_eq_some_iff.1 hi).1
      rw [lcs_len] at hl
      rw [Lib.cell_of_heap hg, ← Array.getElem?_toList]
      rw [← h4, List.getElem?_take, if_pos hl] at hi
      exact hi
    refine ⟨g, 0, rfl, (Array.getElem?_eq_some_iff.1 hg).1, hc _ _ (by rw [Nat.zero_add, Nat.mul_comm]; exact k0), hc _ _ (by rw [Nat.zero_add, Nat.mul_comm]; exact k1), hc _ _ (by rw [Nat.zero_add, Nat.mul_comm]; exact k2)⟩
theorem LR.below {w w' : World} {B : Nat} {A : Option Addr} {l : List Ln} (h : LR w B A l) (hB : B ≤ w.heap.size) (hb : Below w.heap.size w w') : LR w' B A l := h.same fun b hl => hb.block b (Nat.lt_of_lt_of_le hl hB)
set_option maxRecDepth 100000 in
set_option maxHeartbeats 8000000 in
theorem awake_any (w : World) : Calls Tryz.prog 26 #[] w (AwakeE w) := by
  obtain ⟨b, hb⟩ : ∃ b, w.heap.size = b := ⟨_, rfl⟩
  obtain ⟨w1, hw1⟩ : ∃ w1, w.alloc (.cells #[.string yA, .int .i64 2, .string ⟨#[]⟩, .string yB, .int .i64 1, .string yX, .string yC, .int .i64 3, .string y1] 79) = w1 := ⟨_, rfl⟩
  have hh : w1.heap[b]? = some (.cells #[.string yA, .int .i64 2, .string ⟨#[]⟩, .string yB, .int .i64 1, .string yX, .string yC, .int .i64 3, .string y1] 79 (0, 0)) := by rw [← hw1, ← hb]; exact heap_alloc_new w _
  have hb1 : Below w.heap.size w w1 := by rw [← hw1]; exact bel_alloc _ _
  have HB1 := Lib.hid hb1
  have HZ1 := Lib.hid (show b + 1 ≤ w1.heap.size by rw [← hw1, World.size_alloc, hb]; exact Nat.le_refl _)
  have H3 := Lib.hid (three hh)
  have HT1 := Lib.hid (show Calls Tryz.prog 43 #[.slice (some ⟨b, 0, none⟩) 3 3, .int .i64 9] w1 (TreeE w1 zl 9) from tree_any (c := 3) H3.out.1 HZ1.out (by decide) (by decide +kernel) 9)
  clear hh hb1
  unfold AwakeE
  go_enter Tryz.func26, Tryz.ntmps26
  go_wp2_with fail
  refine HT1.out.mono ?_
  intro _ w2 h2
  obtain ⟨P2, rfl, hB2⟩ := tree_zl h2
  have HP2 := Lib.hid hB2
  have HB2 := Lib.hid (show Below w1.heap.size w1 w2 from hB2.bel)
  have HT2 := Lib.hid (show Calls Tryz.prog 43 #[.slice (some ⟨b, 3, none⟩) 1 2, .int .i64 9] w2 (TreeE w2 z1 9) from tree_any (c := 2) (H3.out.2.1.below HZ1.out HB2.out) (Nat.le_trans HZ1.out HB2.out.size) (by decide) (by decide +kernel) 9)
  clear h2 hB2 HT1 hw1
  go_wp2_with fail
  refine HT2.out.mono ?_
  intro _ w3 h3
  obtain ⟨rfl, hb3⟩ := tree_z1 h3
  have HB3 := Lib.hid (bel_step HB2.out hb3)
  have HP3 := Lib.hid (HP2.out.below hb3)
  have HT3 := Lib.hid (show Calls Tryz.prog 43 #[.slice none 0 0, .int .i64 9] w3 (TreeE w3 [] 9) from tree_any (B := 0) (A := none) (l := []) (c := 0) (fun j x hx => by cases hx) (Nat.zero_le _) (by decide) (fun x hx => by cases hx) 9)
  clear h3 hb3 HT2 HP2 HB2
  go_wp2_with fail
  refine HT3.out.mono ?_
  intro _ w4 h4
  obtain ⟨P4, rfl, hB4⟩ := tree_nil h4
  have HP4 := Lib.hid hB4
  have HB4 := Lib.hid (bel_step HB3.out hB4.bel)
  have HP34 := Lib.hid (HP3.out.below hB4.bel)
  have HN := Lib.hid (mg.new_any P2 P4 1 1 w4)
  have HVX := Lib.hid (Vx.made (u := 1) (l := 1) HP34.out.forget HP4.out.forget)
  have HOF := Lib.hid (of_any HVX.out HP34.out.good HP4.out.good)
  rw [aS_of HP34.out.good.1 HP4.out.good.1] at HOF
  unfold OfE at HOF
  clear h4 hB4 HT3 HP3 HB3
  go_wp2_with fail
  refine HN.out.mono ?_
  rintro _ w5 ⟨rfl, rfl⟩
  have HB5 := Lib.hid (bel_step HB4.out (bel_alloc w4 (.cells #[Pq P2, Pq P4, .int .i64 1, .int .i64 1] 90)))
  go_wp2_with fail
  refine HOF.out.mono ?_
  rintro _ w6 ⟨A6, rfl, hlo, hb6⟩
  obtain ⟨A', c, rfl, hlr, hc1, hc2⟩ := hlo.lr
  rw [show zl.length = 3 from rfl] at hc1 ⊢
  have HB6 := Lib.hid (bel_step HB5.out hb6)
  have HLM := Lib.hid hlr
  have HL1 := Lib.hid (H3.out.1.below HZ1.out HB6.out)
  have HL2 := Lib.hid (H3.out.2.1.below HZ1.out HB6.out)
  have HL3 := Lib.hid (H3.out.2.2.below HZ1.out HB6.out)
  have HBZ := Lib.hid (Nat.le_trans HZ1.out HB6.out.size)
  obtain ⟨bm, om, rfl, -, c0, c1, c2⟩ := HLM.out 1 ⟨yB, 1, yX⟩ rfl
  obtain ⟨bq, oq, hq, -, d0, d1, d2⟩ := HL1.out 1 ⟨yB, 1, yX⟩ rfl
  injection hq with hq
  injection hq with hq1 hq2
  subst hq1
  subst hq2
  have k0 : ∀ p : BelowOf w6, p.W.cell? ⟨bm, om + 3, none⟩ = some (.string yB) := fun p => (p.h.cell (p := ⟨bm, om + 3, none⟩) (World.block_lt_of_cell? _ _ c0)).trans c0
  have k1 : ∀ p : BelowOf w6, p.W.cell? ⟨bm, om + 3 + 1, none⟩ = some (.int .i64 1) := fun p => (p.h.cell (p := ⟨bm, om + 3 + 1, none⟩) (World.block_lt_of_cell? _ _ c1)).trans c1
  have k2 : ∀ p : BelowOf w6, p.W.cell? ⟨bm, om + 3 + 2, none⟩ = some (.string yX) := fun p => (p.h.cell (p := ⟨bm, om + 3 + 2, none⟩) (World.block_lt_of_cell? _ _ c2)).trans c2
  have j0 : ∀ p : BelowOf w6, p.W.cell? ⟨b, 3, none⟩ = some (.string yB) := fun p => (p.h.cell (p := ⟨b, 3, none⟩) (World.block_lt_of_cell? _ _ d0)).trans d0
  have j1 : ∀ p : BelowOf w6, p.W.cell? ⟨b, 4, none⟩ = some (.int .i64 1) := fun p => (p.h.cell (p := ⟨b, 4, none⟩) (World.block_lt_of_cell? _ _ d1)).trans d1
  have j2 : ∀ p : BelowOf w6, p.W.cell? ⟨b, 5, none⟩ = some (.string yX) := fun p => (p.h.cell (p := ⟨b, 5, none⟩) (World.block_lt_of_cell? _ _ d2)).trans d2
  have hgd := guard79
  have hq : ∀ W, (binOp .eql 79 (.agg #[.string yB, .int .i64 1, .string yX]) (.agg #[.string yB, .int .i64 1, .string yX])).run Tryz.prog W = .ok (.bool true) W := fun W => (run_eql79 ⟨yB, 1, yX⟩ ⟨yB, 1, yX⟩ W).trans (by rw [sameL_iff.2 rfl])
  have HSA := Lib.hid (fun p : BelowOf w6 => calls_below p (show Calls Tryz.prog 41 #[.slice (some ⟨bm, om, none⟩) 3 c, .slice (some ⟨b, 0, none⟩) 3 3] p.W (RetW p.W (.bool true)) by
    have := same_any (c := c) (c' := 3) (HLM.out.below (Nat.le_refl _) p.h) ((HL1.out.up HBZ.out).below (Nat.le_refl _) p.h) p.h.size (by decide) (by decide)
    rw [z_same] at this
    exact this))
  have HSB := Lib.hid (fun p : BelowOf w6 => calls_below p (show Calls Tryz.prog 41 #[.slice (some ⟨bm, om, none⟩) 3 c, .slice (some ⟨b, 3, none⟩) 2 2] p.W (RetW p.W (.bool false)) by
    have := same_any (c := c) (c' := 2) (HLM.out.below (Nat.le_refl _) p.h) ((HL3.out.up HBZ.out).below (Nat.le_refl _) p.h) p.h.size (by decide) (by decide)
    rw [z_diff] at this
    exact this))
  have HSC := Lib.hid (fun p : BelowOf w6 => calls_below p (show Calls Tryz.prog 42 #[.slice (some ⟨b, 3, none⟩) 1 2] p.W (RetW p.W (.string ⟨#[47, 97, 47, 98, 0, 49, 120, 0, 10]⟩)) by
    have := text_any (c := 2) ((HL2.out.up HBZ.out).below (Nat.le_refl _) p.h) p.h.size (by decide) z_sz
    rw [z_text] at this
    exact this))
  clear hlo hlr hb6 HOF c0 c1 c2 d0 d1 d2 HN HVX HP34 HP4
  go_upto_region 8 with fail
  refine wp_region_below (by kernel_rfl) (by kernel_rfl) ?_
  repeat (go_big_quiet_step ((first | (go_at_call 41; with_reducible exact HSA.out _) | (go_at_call 41; with_reducible exact HSB.out _) | (go_at_call 42; with_reducible exact HSC.out _))))
  refine wpQuiet_nil ?_
  rintro w7 ⟨⟨_, h7⟩, rfl⟩
  have HB7 := Lib.hid (bel_step HB1.out (bel_step HB6.out h7))
  clear h7
  go_wp2_with fail
  go_ret
  exact ⟨rfl, HB7.out⟩
end Go.Proofs.YtnnaoldpacbagaaGreat.fl
end
section
namespace Go.Proofs.YtnnaoldpacbagaaGreat.fl
open Go.ChangeShapes Go.WideShapes Go.ChangeAt Go.RowKit
set_option linter.unusedVariables false
set_option linter.unusedSimpArgs false

instance : Inhabited Ln := ⟨⟨⟨#[]⟩, 0, ⟨#[]⟩⟩⟩
set_option maxRecDepth 100000 in
theorem open_lines {H : Type} {enc : TypeId × Value → H} {W : World} {r : Reach} {b0 : Nat} {sp : Nat → Bool} {held : Bool} {v : Value} {d : DataW H} {p : List MemPlace}
    (hv : Value.okWide Tryz.prog W r b0 70 v) (h : DataW.Trod enc Tryz.prog W 0 sp held 70 v d p) :
    ∃ A c l, v = .slice A (l : List Ln).length c ∧ (l.length ≤ c ∧ c ≤ maxLen) ∧ LR W W.heap.size A l ∧ ∀ x ∈ l, x.path.size ≤ maxLen ∧ x.data.size ≤ maxLen := by
  obtain ⟨fuel, hf⟩ := h
  have hcells : v.cells.toList = [v] := by
    obtain ⟨A, n, c, rfl⟩ := okWide_slice Tryz.underlying70 hv
    rfl
  rw [hcells] at hf
  rcases cb.open_slice_fields Tryz.underlying70 Tryz.underlying79 (by kernel_rfl) (by kernel_rfl) hf with e | ⟨a, len, cap, m, e, hl, hm, hlm, hi⟩
  · injection e with e
    subst e
    exact ⟨none, 0, [], rfl, ⟨Nat.le_refl _, by unfold maxLen; omega⟩, fun j x hx => (by cases hx), fun x hx => (by cases hx)⟩
  · injection e with e
    subst e
    have hall : ∀ i, ∃ x : Ln, i < len → ∃ b off, (some a : Option Addr) = some ⟨b, off, none⟩ ∧ b < W.heap.size ∧
        W.cell? ⟨b, off + i * 3, none⟩ = some (.string x.path) ∧
  W.cell? ⟨b, off + i * 3 + 1, none⟩ = some (.int .i64 x.kind) ∧
  W.cell? ⟨b, off + i * 3 + 2, none⟩ = some (.string x.data) ∧ x.path.size ≤ maxLen ∧ x.data.size ≤ maxLen := by
      intro i
      by_cases hil : i < len
      · obtain ⟨n0, hj0⟩ := hi 0 (by omega)
        obtain ⟨_, _, c00, _⟩ := hj0 0 _ rfl
        obtain ⟨b, off, rfl, hb⟩ := cb.spot_none (by simpa using c00)
        obtain ⟨n, hj⟩ := hi i (by omega)
        obtain ⟨v0, y0, c0, t0⟩ := hj 0 _ rfl
        obtain ⟨v1, y1, c1, t1⟩ := hj 1 _ rfl
        obtain ⟨v2, y2, c2, t2⟩ := hj 2 _ rfl
        obtain ⟨z0, e0, _, hz0⟩ := DataW.trod_string Tryz.underlying9 t0
        obtain ⟨z1, e1, _⟩ := DataW.trod_int Tryz.underlying3 t1
        obtain ⟨z2, e2, _, hz2⟩ := DataW.trod_string Tryz.underlying9 t2
        injection e0 with e0
        subst e0
        injection e1 with e1
        subst e1
        injection e2 with e2
        subst e2
        rw [Go.WideShapes.add_plain] at c0 c1 c2
        exact ⟨⟨z0, z1, z2⟩, fun _ => ⟨b, off, rfl, hb, by simpa using c0, by simpa [Nat.add_assoc] using c1, by simpa [Nat.add_assoc] using c2, hz0, hz2⟩⟩
      · exact ⟨default, fun h => absurd h hil⟩
    obtain ⟨F, hF⟩ := Classical.axiomOfChoice hall
    have hlen : ((List.range len).map F).length = len := by simp
    have hget : ∀ (j : Nat) (x : Ln), ((List.range len).map F)[j]? = some x → j < len ∧ x = F j := fun j x hx => by
      rw [List.getElem?_map] at hx
      by_cases hj : j < len
      · rw [List.getElem?_range hj] at hx
        injection hx with hx
        exact ⟨hj, hx.symm⟩
      · rw [List.getElem?_eq_none (by simpa using hj)] at hx
        cases hx
    refine ⟨some a, cap, (List.range len).map F, by rw [hlen], by rw [hlen]; exact ⟨hl, hm⟩, fun j x hx => ?_, fun x hx => ?_⟩
    · obtain ⟨hj, rfl⟩ := hget j x hx
      obtain ⟨b, off, e, hb, c0, c1, c2, _⟩ := hF j hj
      exact ⟨b, off, e, hb, c0, c1, c2⟩
    · obtain ⟨j, hx⟩ := List.getElem?_of_mem hx
      obtain ⟨hj, rfl⟩ := hget j x hx
      obtain ⟨_, _, _, _, _, _, _, h1, h2⟩ := hF j hj
      exact ⟨h1, h2⟩
set_option maxRecDepth 100000 in
/-- An argument reads as it did, in any later world that is the same below the heap's first end. -/
theorem lines_stay {H : Type} {enc : TypeId × Value → H} {W W' : World} {v : Value} {d : DataW H} {ps before : List MemPlace} {sp : Nat → Bool}
    (h : DataW.Trod enc Tryz.prog W 0 (fun _ => true) true 70 v d ps) (hb : Below W.heap.size W W') (hsub : ∀ x ∈ ps, x ∈ before) (hlt : ∀ x ∈ before, x.block < W.heap.size) (hsp : ∀ x ∈ before, sp x.block = true) (hlaid : laidOutB Tryz.prog = true) :
    DataW.Trod enc Tryz.prog W' 0 sp true 70 v d ps :=
  WideElems.Trod_stays hlaid (by kernel_rfl) (of_decide_eq_true (by kernel_rfl)) h (fun x hx => hb.same (hlt x (hsub x hx))) (fun x hx => hsp x (hsub x hx))
theorem sum_mem {l : List Ln} {x : Ln} (h : x ∈ l) : x.data.size + x.path.size ≤ sumS l := by
  unfold sumS
  induction l with
  | nil => cases h
  | cons y l ih =>
    simp only [List.map_cons, List.sum_cons]
    rcases List.mem_cons.1 h with rfl | h
    · omega
    · have := ih h; omega
theorem text_size (l : List Ln) : (textB l).length = sumS l + 4 * l.length := by
  induction l with
  | nil => rfl
  | cons x l ih =>
    have e : textB (x :: l) = lineB x ++ textB l := by unfold textB; rw [List.flatMap_cons]
    rw [e, List.length_append, ih]
    unfold lineB sumS
    simp only [List.length_append, List.length_cons, List.length_nil, List.map_cons, List.sum_cons]
    have h1 : x.path.size = x.path.data.toList.length := by rw [Array.length_toList]; rfl
    have h2 : x.data.size = x.data.data.toList.length := by rw [Array.length_toList]; rfl
    omega
end Go.Proofs.YtnnaoldpacbagaaGreat.fl
end
