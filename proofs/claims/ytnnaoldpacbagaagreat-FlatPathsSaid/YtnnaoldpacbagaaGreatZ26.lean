/- Two branches as one: how deep a node lies, and how many names there are below it; mathematics alone. A line. -/
import Derived.Test.YtnnaoldpacbagaaGreatZ13
import Derived.Test.YtnnaoldpacbagaaGreatZ14
import Derived.Test.YtnnaoldpacbagaaGreatRows
section
namespace Go.Proofs.YtnnaoldpacbagaaGreat.fl
open Go.RowKit
open Go.Proofs.YtnnaoldpacbagaaGreat.dn (En lget lset ldel nerr dotB Sorted lessB)
open Go.Proofs.YtnnaoldpacbagaaGreat.br (BS Ino Inv Good Tree sumF)
open Go.Proofs.YtnnaoldpacbagaaGreat.mg (Nd opq kindV lstV belV seenV pairV getV rootV AllV)
set_option linter.unusedVariables false
set_option linter.unusedSimpArgs false

theorem lget_cons' (s : ByteArray) (e : En) (l : List En) : lget s (e :: l) = if e.1 = s then some e.2 else lget s l := by
  unfold lget
  by_cases h : e.1 = s
  · simp [List.find?, h]
  · simp [List.find?, h]
theorem sumF_add (f g : Nat → Nat) : ∀ n, sumF (fun k => f k + g k) n = sumF f n + sumF g n
  | 0 => rfl
  | n + 1 => by
    have := sumF_add f g n
    simp only [sumF] at this ⊢
    omega
theorem sumF_swap {α : Type} (f : α → Nat → Nat) (n : Nat) : ∀ l : List α, (l.map fun e => sumF (f e) n).sum = sumF (fun k => (l.map fun e => f e k).sum) n
  | [] => by simp [br.sumF_zero]
  | e :: l => by
    simp only [List.map_cons, List.sum_cons]
    rw [sumF_swap f n l, ← sumF_add]
theorem sum_filter {α : Type} (P : α → Bool) (c : Nat) : ∀ l : List α, (l.map fun e => if P e = true then c else 0).sum = (l.filter P).length * c
  | [] => by simp
  | e :: l => by
    simp only [List.map_cons, List.sum_cons, List.filter_cons]
    rw [sum_filter P c l]
    cases P e with
    | true => simp [Nat.add_mul, Nat.add_comm]
    | false => simp
theorem sum_le {α : Type} {f g : α → Nat} : ∀ {l : List α}, (∀ e ∈ l, f e ≤ g e) → (l.map f).sum ≤ (l.map g).sum
  | [], _ => Nat.le_refl _
  | e :: l, h => by
    simp only [List.map_cons, List.sum_cons]
    have h1 := h e (List.mem_cons_self)
    have h2 := sum_le (l := l) fun x hx => h x (List.mem_cons_of_mem _ hx)
    omega
theorem sum_add {α : Type} (f g : α → Nat) : ∀ l : List α, (l.map fun e => f e + g e).sum = (l.map f).sum + (l.map g).sum
  | [] => rfl
  | e :: l => by
    have := sum_add f g l
    simp only [List.map_cons, List.sum_cons]
    omega

/-- From a directory down to another one. -/
inductive Anc (S : BS) (i : Nat) : Nat → Prop
  | refl : Anc S i i
  | up {p k : Nat} : Anc S i p → (S.ino k).kind = 2 → (S.ino k).links ≠ 0 → (S.ino k).parent = (p : Int) → k ≠ 1 → Anc S i k
theorem Anc.trans {S : BS} {i j k : Nat} (h : Anc S i j) (h2 : Anc S j k) : Anc S i k := by
  induction h2 with
  | refl => exact h
  | up _ a b c d ih => exact .up ih a b c d
theorem Anc.line {S : BS} {a b k : Nat} (h : Anc S a k) : Anc S b k → Anc S a b ∨ Anc S b a := by
  induction h with
  | refl => exact fun h => .inr h
  | up h hk hl hp h1 ih =>
    intro h2
    cases h2 with
    | refl => exact .inl (.up h hk hl hp h1)
    | up h' _ _ hp' _ =>
      obtain rfl : _ = _ := Int.ofNat_inj.1 (hp.symm.trans hp')
      exact ih h'
def Deep (S : BS) (deep : Nat → Nat) : Prop := (∀ k, deep k ≤ 200) ∧ ∀ k, (S.ino k).kind = 2 → (S.ino k).links ≠ 0 → k ≠ 1 →
    ∃ p : Nat, (S.ino k).parent = (p : Int) ∧ (S.ino p).kind = 2 ∧ (S.ino p).links ≠ 0 ∧ deep p < deep k
theorem Anc.deep {S : BS} {deep : Nat → Nat} (hd : Deep S deep) {a k : Nat} (h : Anc S a k) : deep a ≤ deep k := by
  induction h with
  | refl => exact Nat.le_refl _
  | up _ hk hl hp h1 ih =>
    obtain ⟨p, e, _, _, h⟩ := hd.2 _ hk hl h1
    obtain rfl : _ = _ := Int.ofNat_inj.1 (hp.symm.trans e)
    omega
section
open Classical
noncomputable def wt (S : BS) (d : Nat) : Nat := sumF (fun k => if Anc S d k then (S.ino k).dir.length else 0) 200
noncomputable def wtI (S : BS) (i : Int) : Nat := if S.kindOf i = 2 then wt S i.toNat else 0
variable {S U L : BS} {room : Nat}
theorem kind_at (hI : Inv S room) {i : Int} {I : Nat} (e : i = (I : Int)) (h1 : 1 ≤ I) (h2 : I ≤ 200) : S.kindOf i = (S.ino I).kind := by
  subst e
  unfold BS.kindOf BS.isI
  rw [br.at_nat]
  by_cases hk : (S.ino I).kind = 0
  · simp [hk]
  · rw [decide_eq_true ⟨by omega, by omega, hk⟩]; rfl
/-- A child's number, kind and parent. -/
theorem child (hI : Inv S room) {deep : Nat → Nat} (hd : Deep S deep) {D : Nat} {e : En} (he : e ∈ (S.ino D).dir) (hk : S.kindOf e.2 = 2) :
    ∃ I : Nat, e.2 = (I : Int) ∧ (S.ino I).kind = 2 ∧ (S.ino I).links ≠ 0 ∧ (S.ino I).parent = (D : Int) ∧ I ≠ 1 ∧ 1 ≤ I ∧ I ≤ 200 ∧ deep D < deep I := by
  obtain ⟨hD, hDn, I, e2, i1, i2, i3, i4, i5⟩ := hI.entry he
  have hk2 : (S.ino I).kind = 2 := (kind_at hI e2 i1 i2).symm.trans hk
  have hp := hI.up D e he (by rw [e2, br.at_nat]; exact hk2)
  rw [e2, br.at_nat] at hp
  have hl : (S.ino I).links ≠ 0 := by omega
  obtain ⟨p, e3, _, _, h4⟩ := hd.2 I hk2 hl i3
  obtain rfl : p = D := Int.ofNat_inj.1 (e3.symm.trans hp)
  exact ⟨I, e2, hk2, hl, hp, i3, i1, i2, h4⟩
theorem wtI_child (hI : Inv S room) {D : Nat} {e : En} (he : e ∈ (S.ino D).dir) :
    wtI S e.2 = sumF (fun k => if decide (S.kindOf e.2 = 2 ∧ Anc S e.2.toNat k) = true then (S.ino k).dir.length else 0) 200 := by
  unfold wtI wt
  by_cases hk : S.kindOf e.2 = 2
  · rw [if_pos hk]; simp [hk]
  · rw [if_neg hk]; simp [hk, br.sumF_zero]
theorem wt_step (hI : Inv S room) {deep : Nat → Nat} (hd : Deep S deep) {D : Nat} (h1 : 1 ≤ D) (h2 : D ≤ 200) :
    ((S.ino D).dir.map fun e => 1 + wtI S e.2).sum ≤ wt S D := by
  have e0 : ((S.ino D).dir.map fun e => 1 + wtI S e.2).sum = (S.ino D).dir.length + ((S.ino D).dir.map fun e => wtI S e.2).sum := by
    rw [sum_add]; congr 1
    generalize (S.ino D).dir = l
    induction l with
    | nil => rfl
    | cons _ l ih => simp only [List.map_cons, List.sum_cons, List.length_cons, ih]; omega
  have e1 : ((S.ino D).dir.map fun e => wtI S e.2).sum = ((S.ino D).dir.map fun e => sumF (fun k => if decide (S.kindOf e.2 = 2 ∧ Anc S e.2.toNat k) = true then (S.ino k).dir.length else 0) 200).sum := by
    congr 1
    exact List.map_congr_left fun e he => wtI_child hI he
  have e2 : (S.ino D).dir.length ≤ sumF (fun k => if k = D then (S.ino k).dir.length else 0) 200 := by
    have := br.sumF_le (f := fun k => if k = D then (S.ino k).dir.length else 0) h1 h2
    simpa using this
  rw [e0, e1, sumF_swap]
  refine Nat.le_trans (Nat.add_le_add_right e2 _) ?_
  rw [← sumF_add]
  unfold wt
  refine br.sumF_mono fun k k1 k2 => ?_
  rw [sum_filter (fun e : En => decide (S.kindOf e.2 = 2 ∧ Anc S e.2.toNat k))]
  by_cases hf : (S.ino D).dir.filter (fun e : En => decide (S.kindOf e.2 = 2 ∧ Anc S e.2.toNat k)) = []
  · rw [hf]
    by_cases hk : k = D
    · subst hk; rw [if_pos rfl, if_pos .refl]; simp
    · rw [if_neg hk]; simp
  · obtain ⟨e, hm⟩ := List.exists_mem_of_ne_nil _ hf
    rw [List.mem_filter, decide_eq_true_eq] at hm
    obtain ⟨he, hk, ha⟩ := hm
    obtain ⟨I, eI, c1, c2, c3, c4, c5, c6, c7⟩ := child hI hd he hk
    have ha' : Anc S I k := by rw [eI] at ha; simpa using ha
    have hD : k ≠ D := by
      rintro rfl
      have := ha'.deep hd
      omega
    have hA : Anc S D k := Anc.trans (.up .refl c1 c2 c3 c4) ha'
    rw [if_neg hD, if_pos hA, Nat.zero_add]
    have hlen : ((S.ino D).dir.filter (fun e : En => decide (S.kindOf e.2 = 2 ∧ Anc S e.2.toNat k))).length ≤ 1 := by
      have h3 : ((S.ino D).dir.filter (fun e : En => decide (S.kindOf e.2 = 2 ∧ Anc S e.2.toNat k))).length ≤ br.names (I : Int) (S.ino D).dir := by
        unfold br.names
        rw [← List.countP_eq_length_filter, ← List.countP_eq_length_filter]
        have : ∀ l : List En, (∀ x ∈ l, x ∈ (S.ino D).dir) → l.countP (fun e : En => decide (S.kindOf e.2 = 2 ∧ Anc S e.2.toNat k)) ≤ l.countP (fun e : En => decide (e.2 = (I : Int))) := by
          intro l hl
          refine List.countP_mono_left fun x hx hp => ?_
          rw [decide_eq_true_eq] at hp ⊢
          obtain ⟨J, eJ, d1, d2, d3, d4, d5, d6, d7⟩ := child hI hd (hl x hx) hp.1
          have hJ : Anc S J k := by have := hp.2; rw [eJ] at this; simpa using this
          rw [eJ]
          by_cases hij : I = J
          · rw [hij]
          · exfalso
            rcases ha'.line hJ with h | h
            · cases h with
              | refl => exact hij rfl
              | up h _ _ hp _ =>
                obtain rfl : _ = _ := Int.ofNat_inj.1 (hp.symm.trans d3)
                have := h.deep hd; omega
            · cases h with
              | refl => exact hij rfl
              | up h _ _ hp _ =>
                obtain rfl : _ = _ := Int.ofNat_inj.1 (hp.symm.trans c3)
                have := h.deep hd; omega
        exact this _ fun x hx => hx
      have h4 : br.names (I : Int) (S.ino D).dir ≤ S.names I 200 := br.sumF_le (f := fun k => br.names (I : Int) (S.ino k).dir) h1 h2
      have h5 := hI.links I c5 c6
      have h6 := hI.single I c1
      rw [if_neg c4] at h5
      omega
    exact Nat.le_trans (Nat.mul_le_mul_right _ hlen) (by rw [Nat.one_mul]; exact Nat.le_refl _)
theorem sumF_cap {f : Nat → Nat} {c : Nat} (h : ∀ k, f k ≤ c) : ∀ n, sumF f n ≤ n * c
  | 0 => Nat.zero_le _
  | n + 1 => by
    have h1 := sumF_cap h n
    have h2 := h (n + 1)
    simp only [sumF]
    rw [Nat.add_mul]
    omega
theorem wt_cap (hI : Inv S room) (d : Nat) : wt S d ≤ 800000 := by
  refine Nat.le_trans (sumF_cap (c := 4000) (fun k => ?_) 200) (by decide)
  split
  · exact hI.dirLen k
  · exact Nat.zero_le _
theorem wtI_cap (hI : Inv S room) (i : Int) : wtI S i ≤ 800000 := by
  unfold wtI
  split
  · exact wt_cap hI _
  · exact Nat.zero_le _
theorem wtI_zero (S : BS) : wtI S 0 = 0 := by unfold wtI; rw [mg.kind_zero]; rfl
/-- What a name brings. -/
noncomputable def got (S : BS) (d : Int) (s : ByteArray) : Nat := if (S.get d s).2 = 0 then 1 + wtI S (S.get d s).1 else 0
theorem zero_sum {α : Type} : ∀ l : List α, (l.map fun _ => (0 : Nat)).sum = 0
  | [] => rfl
  | _ :: l => by simpa using zero_sum l
theorem sum_once (a : ByteArray) (c : Nat) : ∀ {l : List ByteArray}, l.Nodup → (l.map fun s => if a = s then c else 0).sum ≤ c
  | [], _ => Nat.zero_le _
  | s :: l, h => by
    have hn := List.nodup_cons.1 h
    simp only [List.map_cons, List.sum_cons]
    by_cases e : a = s
    · subst e
      rw [if_pos rfl]
      have : (l.map fun s => if a = s then c else 0).sum = 0 := by
        rw [List.map_congr_left (g := fun _ => 0) fun s hs => if_neg fun e : a = s => hn.1 (e ▸ hs)]
        exact zero_sum l
      omega
    · rw [if_neg e]
      have := sum_once a c hn.2
      omega
theorem sum_names (g : Int → Nat) {l : List ByteArray} (hl : l.Nodup) : ∀ L : List En, (l.map fun s => match lget s L with | some v => g v | none => 0).sum ≤ (L.map fun e => g e.2).sum
  | [] => by
    have : (l.map fun s => match lget s [] with | some v => g v | none => 0) = l.map fun _ => 0 := List.map_congr_left fun s _ => rfl
    rw [this]; clear this hl
    induction l with
    | nil => exact Nat.le_refl _
    | cons _ l ih => simpa using ih
  | e :: L => by
    have h1 := sum_names g hl L
    have h2 := sum_once e.1 (g e.2) hl
    have h3 : (l.map fun s => match lget s (e :: L) with | some v => g v | none => 0).sum ≤ (l.map fun s => (if e.1 = s then g e.2 else 0) + match lget s L with | some v => g v | none => 0).sum := by
      refine sum_le fun s _ => ?_
      rw [lget_cons']
      by_cases e1 : e.1 = s
      · rw [if_pos e1, if_pos e1]; simp
      · rw [if_neg e1, if_neg e1]; simp
    rw [sum_add] at h3
    simp only [List.map_cons, List.sum_cons]
    omega
theorem got_sum (hI : Inv S room) {deep : Nat → Nat} (hd : Deep S deep) (d : Int) {l : List ByteArray} (hl : l.Nodup) : (l.map fun s => got S d s).sum ≤ wtI S d := by
  by_cases hk : S.dirE d false = 0
  · obtain ⟨D, rfl, h1, h2, h3, _⟩ := br.dirE_ok hk
    have hw : wtI S (D : Int) = wt S D := by unfold wtI; rw [kind_at hI rfl h1 h2, if_pos h3]; rfl
    rw [hw]
    refine Nat.le_trans (Nat.le_trans (sum_le fun s _ => ?_) (sum_names (fun v => 1 + wtI S v) hl (S.ino D).dir)) (wt_step hI hd h1 h2)
    unfold got BS.get
    rw [if_neg (show ¬ (S.dirE (D : Int) false ≠ 0) from fun e => e hk), br.at_nat]
    cases lget s (S.ino D).dir with
    | none => simp
    | some v => simp
  · have : (l.map fun s => got S d s) = l.map fun _ => 0 := List.map_congr_left fun s _ => by
      unfold got; rw [mg.get_none d s hk]; rw [if_neg hk]
    rw [this]
    have h0 : ∀ l : List ByteArray, (l.map fun _ => (0 : Nat)).sum = 0 := fun l => by induction l with | nil => rfl | cons _ l ih => simpa using ih
    rw [h0]; exact Nat.zero_le _
noncomputable def wN (U L : BS) (n : Nd) : Nat := wtI U n.1 + wtI L n.2
theorem get_bel {U L : BS} {room : Nat} (hL : Inv L room) (n : Nd) (s : ByteArray) (h : (L.get (belV U n) s).1 ≠ 0) : belV U n = n.2 ∧ (L.get n.2 s).2 = 0 := by
  have hz := mg.get_zero hL (belV U n) s
  have h2 : (L.get (belV U n) s).2 = 0 := by
    by_cases e : (L.get (belV U n) s).2 = 0
    · exact e
    · exact absurd (hz.2 e) h
  unfold belV at h2 h ⊢
  split
  · rename_i e
    rw [if_pos e] at h2
    have := br.get_ok h2
    obtain ⟨D, e0, h1, _⟩ := this
    omega
  · rename_i e
    rw [if_neg e] at h2
    exact ⟨rfl, h2⟩
theorem wN_step {r1 r2 : Nat} (hU : Inv U r1) (hL : Inv L r2) (n : Nd) (s : ByteArray) (h : (getV U L n s).2 = 0) :
    1 + wN U L (getV U L n s).1 ≤ got U n.1 s + got L n.2 s := by
  have h0 : lstV U L n = 0 := by
    by_cases e : lstV U L n = 0
    · exact e
    · rw [mg.getV_lst e] at h; exact absurd h e
  have hn : seenV U L (pairV U L n s) ≠ (0, 0) := by
    intro e
    unfold getV at h
    rw [if_neg (by rw [h0]; decide), if_pos e] at h
    exact absurd h (by decide)
  have hg : (getV U L n s).1 = seenV U L (pairV U L n s) := by
    unfold getV
    rw [if_neg (by rw [h0]; decide), if_neg hn]
  rw [hg]
  have hUk := mg.get_kind hU n.1 s
  have hUz := mg.get_zero hU n.1 s
  have gU : U.kindOf (U.get n.1 s).1 ≠ 0 → got U n.1 s = 1 + wtI U (U.get n.1 s).1 := fun e => by
    unfold got
    rw [if_pos]
    by_cases e2 : (U.get n.1 s).2 = 0
    · exact e2
    · exact absurd (hUk.2 (hUz.2 e2)) e
  have gL : (L.get (belV U n) s).1 ≠ 0 → got L n.2 s = 1 + wtI L (L.get (belV U n) s).1 := fun e => by
    obtain ⟨e1, e2⟩ := get_bel hL n s e
    unfold got
    rw [if_pos e2, e1]
  have hLz := mg.kind_zero L
  unfold seenV at hn ⊢
  unfold pairV at hn ⊢
  generalize U.get n.1 s = x at *
  generalize L.get (belV U n) s = y at *
  obtain ⟨x1, x2⟩ := x
  obtain ⟨y1, y2⟩ := y
  dsimp only at *
  by_cases e1 : U.kindOf x1 = 0
  · rw [if_pos e1] at hn ⊢
    by_cases e2 : L.kindOf y1 = 4
    · rw [if_pos e2] at hn; exact absurd rfl hn
    · rw [if_neg e2] at hn ⊢
      have hy : y1 ≠ 0 := fun e => hn (by rw [e])
      rw [gL hy]
      unfold wN
      rw [wtI_zero]; dsimp only; omega
  · rw [if_neg e1] at hn ⊢
    by_cases e2 : U.kindOf x1 = 4
    · rw [if_pos e2] at hn; exact absurd rfl hn
    · rw [if_neg e2] at hn ⊢
      rw [gU e1]
      by_cases e3 : U.kindOf x1 = 2 ∧ L.kindOf y1 = 2 ∧ opq U x1 = false
      · rw [if_pos e3]
        have hy : y1 ≠ 0 := fun e => by rw [e, hLz] at e3; exact absurd e3.2.1 (by decide)
        rw [gL hy]
        unfold wN; dsimp only; omega
      · rw [if_neg e3]
        unfold wN
        rw [wtI_zero]; dsimp only; omega
theorem wN_sum {r1 r2 : Nat} (hU : Inv U r1) (hL : Inv L r2) {dU dL : Nat → Nat} (hdU : Deep U dU) (hdL : Deep L dL) (n : Nd) {l : List ByteArray} (hl : AllV U L n l) :
    (l.map fun s => 1 + wN U L (getV U L n s).1).sum ≤ wN U L n := by
  have hn : l.Nodup := hl.rise.imp fun {a b} h e => by subst e; rw [dn.less_irrefl] at h; cases h
  refine Nat.le_trans (sum_le fun s hs => wN_step hU hL n s ((hl.mem s).1 hs)) ?_
  rw [sum_add]
  exact Nat.add_le_add (got_sum hU hdU n.1 hn) (got_sum hL hdL n.2 hn)
theorem wN_cap {r1 r2 : Nat} (hU : Inv U r1) (hL : Inv L r2) (n : Nd) : wN U L n ≤ 1600000 := Nat.add_le_add (wtI_cap hU _) (wtI_cap hL _)

/-! ### how deep -/
noncomputable def hgt (S : BS) (deep : Nat → Nat) (i : Int) : Nat := if S.kindOf i = 2 then 201 - deep i.toNat else 0
theorem hgt_child (hI : Inv S room) {deep : Nat → Nat} (hd : Deep S deep) (d : Int) (s : ByteArray) (h : (S.get d s).2 = 0) : hgt S deep (S.get d s).1 < hgt S deep d := by
  obtain ⟨D, rfl, h1, h2, h3, h4⟩ := br.get_ok h
  have h5 := (dn.lget_some (hI.sorted D)).1 h4
  have hD : hgt S deep (D : Int) = 201 - deep D := by unfold hgt; rw [kind_at hI rfl h1 h2, if_pos h3]; rfl
  have h200 := hd.1 D
  rw [hD]
  by_cases hk : S.kindOf (S.get (D : Int) s).1 = 2
  · obtain ⟨I, eI, _, _, _, _, _, _, c7⟩ := child hI hd h5 hk
    have := hd.1 I
    unfold hgt
    rw [if_pos hk]
    dsimp only at eI
    rw [eI]
    show 201 - deep ((I : Int)).toNat < _
    rw [Int.toNat_natCast]; omega
  · unfold hgt; rw [if_neg hk]; omega
noncomputable def hN (U L : BS) (dU dL : Nat → Nat) (n : Nd) : Nat := max (hgt U dU n.1) (hgt L dL n.2)
theorem hgt_le (S : BS) (deep : Nat → Nat) (i : Int) : hgt S deep i ≤ 201 := by unfold hgt; split <;> omega
theorem hN_le (U L : BS) (dU dL : Nat → Nat) (n : Nd) : hN U L dU dL n ≤ 201 := Nat.max_le.2 ⟨hgt_le _ _ _, hgt_le _ _ _⟩
theorem hgt_zero (S : BS) (deep : Nat → Nat) : hgt S deep 0 = 0 := by unfold hgt; rw [mg.kind_zero]; rfl
theorem hN_child {r1 r2 : Nat} (hU : Inv U r1) (hL : Inv L r2) {dU dL : Nat → Nat} (hdU : Deep U dU) (hdL : Deep L dL) (n : Nd) (s : ByteArray) (h : (getV U L n s).2 = 0) :
    hN U L dU dL (getV U L n s).1 < hN U L dU dL n := by
  have h0 : lstV U L n = 0 := by
    by_cases e : lstV U L n = 0
    · exact e
    · rw [mg.getV_lst e] at h; exact absurd h e
  have hn : seenV U L (pairV U L n s) ≠ (0, 0) := by
    intro e
    unfold getV at h
    rw [if_neg (by rw [h0]; decide), if_pos e] at h
    exact absurd h (by decide)
  have hg : (getV U L n s).1 = seenV U L (pairV U L n s) := by
    unfold getV
    rw [if_neg (by rw [h0]; decide), if_neg hn]
  rw [hg]
  have hUk := mg.get_kind hU n.1 s
  have hUz := mg.get_zero hU n.1 s
  have cU : U.kindOf (U.get n.1 s).1 ≠ 0 → hgt U dU (U.get n.1 s).1 < hgt U dU n.1 := fun e => hgt_child hU hdU _ _ (by
    by_cases e2 : (U.get n.1 s).2 = 0
    · exact e2
    · exact absurd (hUk.2 (hUz.2 e2)) e)
  have cL : (L.get (belV U n) s).1 ≠ 0 → hgt L dL (L.get (belV U n) s).1 < hgt L dL n.2 := fun e => by
    obtain ⟨e1, e2⟩ := get_bel hL n s e
    rw [e1]
    exact hgt_child hL hdL _ _ e2
  have hLz := mg.kind_zero L
  have zU := hgt_zero U dU
  have zL := hgt_zero L dL
  unfold seenV at hn ⊢
  unfold pairV at hn ⊢
  unfold hN
  generalize U.get n.1 s = x at *
  generalize L.get (belV U n) s = y at *
  obtain ⟨x1, x2⟩ := x
  obtain ⟨y1, y2⟩ := y
  dsimp only at *
  by_cases e1 : U.kindOf x1 = 0
  · rw [if_pos e1] at hn ⊢
    by_cases e2 : L.kindOf y1 = 4
    · rw [if_pos e2] at hn; exact absurd rfl hn
    · rw [if_neg e2] at hn ⊢
      have hy : y1 ≠ 0 := fun e => hn (by rw [e])
      have := cL hy
      dsimp only
      rw [zU]; omega
  · rw [if_neg e1] at hn ⊢
    by_cases e2 : U.kindOf x1 = 4
    · rw [if_pos e2] at hn; exact absurd rfl hn
    · rw [if_neg e2] at hn ⊢
      have := cU e1
      by_cases e3 : U.kindOf x1 = 2 ∧ L.kindOf y1 = 2 ∧ opq U x1 = false
      · rw [if_pos e3]
        have hy : y1 ≠ 0 := fun e => by rw [e, hLz] at e3; exact absurd e3.2.1 (by decide)
        have := cL hy
        dsimp only; omega
      · rw [if_neg e3]
        dsimp only
        rw [zL]; omega
end
end Go.Proofs.YtnnaoldpacbagaaGreat.fl
end
section
namespace Go.Proofs.YtnnaoldpacbagaaGreat.fl
structure Ln where
  path : ByteArray
  kind : Int
  data : ByteArray
end Go.Proofs.YtnnaoldpacbagaaGreat.fl
end
