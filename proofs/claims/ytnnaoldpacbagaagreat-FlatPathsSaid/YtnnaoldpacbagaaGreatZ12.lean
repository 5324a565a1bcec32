/- A branch as the document tells it: a name is moved. A branch as the document tells it: what holds of every branch, and that its directories hang together, stays through every call. A branch as the document tells it: what holds of every branch stays through Rename and the calls on inodes. A branch as the document tells it: what is made and taken away again; a name moved there and back. -/
import Derived.Test.YtnnaoldpacbagaaGreatZ11
section
namespace Go.Proofs.YtnnaoldpacbagaaGreat.br
open Go.RowKit
open Go.Proofs.YtnnaoldpacbagaaGreat.dn (En lget lset ldel nerr dotB Sorted lget_some lget_none ldel_mem ldel_sorted lset_mem lset_sorted)
open Go.Proofs.YtnnaoldpacbagaaGreat.bl (AB cut cutR cutB readR WR wr)
set_option linter.unusedVariables false

/-- The entries behind the first half: s is gone from D. -/
def halfD (S : BS) (D : Nat) (s : ByteArray) (k : Nat) : List En := if k = D then ldel s (S.ino D).dir else (S.ino k).dir
structure Moved (S S' : BS) (D T I : Nat) (s u : ByteArray) : Prop where
  dir : ∀ k, (S'.ino k).dir = if k = T then lset u I (halfD S D s T) else halfD S D s k
  kind : ∀ k, (S'.ino k).kind = (S.ino k).kind
  links : ∀ k, (S'.ino k).links = (S.ino k).links
  holds : ∀ k, (S'.ino k).holds = (S.ino k).holds
  body : ∀ k, (S'.ino k).body = (S.ino k).body
  target : ∀ k, (S'.ino k).target = (S.ino k).target
  parent : ∀ k, (S'.ino k).parent = if k = I ∧ (S.ino I).kind = 2 then (T : Int) else (S.ino k).parent
  marks : ∀ k, (S'.ino k).marks = (S.ino k).marks
  used : S'.used = S.used
theorem move_moved {S : BS} {D T I : Nat} (s u : ByteArray) (h1 : I ≠ D) (h2 : I ≠ T) : Moved S (S.move D s T u I) D T I s u := by
  have e1 : ∀ k, (S.putDir (D : Int) (ldel s (S.at D).dir)).ino k = { S.ino k with dir := halfD S D s k } := fun k => by
    show upd S.ino ((D : Int)).toNat _ k = _
    rw [Int.toNat_natCast]
    unfold halfD
    by_cases e : k = D
    · subst e; rw [upd_same, if_pos rfl]; rfl
    · rw [upd_other _ _ e, if_neg e]
  have e2 : ∀ k, ((S.putDir (D : Int) (ldel s (S.at D).dir)).putDir (T : Int) (lset u I ((S.putDir (D : Int) (ldel s (S.at D).dir)).at T).dir)).ino k = { S.ino k with dir := if k = T then lset u I (halfD S D s T) else halfD S D s k } := fun k => by
    show upd _ ((T : Int)).toNat { (S.putDir (D : Int) (ldel s (S.at D).dir)).ino ((T : Int)).toNat with dir := lset u I ((S.putDir (D : Int) (ldel s (S.at D).dir)).ino ((T : Int)).toNat).dir } k = _
    rw [Int.toNat_natCast]
    by_cases e : k = T
    · subst e; rw [upd_same, if_pos rfl, e1]
    · rw [upd_other _ _ e, if_neg e, e1]
  have e3 : (S.at (I : Int)) = S.ino I := by show S.ino ((I : Int)).toNat = _; rw [Int.toNat_natCast]
  have e4 : ∀ k, (S.move D s T u I).ino k = { S.ino k with dir := (if k = T then lset u I (halfD S D s T) else halfD S D s k), parent := if k = I ∧ (S.ino I).kind = 2 then (T : Int) else (S.ino k).parent } := fun k => by
    unfold BS.move
    rw [e3]
    dsimp only
    by_cases hk : (S.ino I).kind = 2
    · rw [if_pos hk]
      show upd _ ((I : Int)).toNat { ((S.putDir (D : Int) (ldel s (S.at D).dir)).putDir (T : Int) (lset u I ((S.putDir (D : Int) (ldel s (S.at D).dir)).at T).dir)).ino ((I : Int)).toNat with parent := (T : Int) } k = _
      rw [Int.toNat_natCast]
      by_cases e : k = I
      · subst e; rw [upd_same, e2, if_pos (And.intro rfl hk)]
      · rw [upd_other _ _ e, e2, if_neg (fun x : k = I ∧ (S.ino I).kind = 2 => e x.1)]
    · rw [if_neg hk, e2, if_neg (fun x : k = I ∧ (S.ino I).kind = 2 => hk x.2)]
  have e5 : (S.move D s T u I).used = S.used := by
    unfold BS.move
    dsimp only
    split <;> rfl
  exact ⟨fun k => by rw [e4], fun k => by rw [e4], fun k => by rw [e4], fun k => by rw [e4], fun k => by rw [e4], fun k => by rw [e4], fun k => by rw [e4], fun k => by rw [e4], e5⟩
section
variable {S S' : BS} {D T I room : Nat} {s u : ByteArray}
theorem half_sub (k : Nat) (e : En) (h : e ∈ halfD S D s k) : e ∈ (S.ino k).dir := by
  unfold halfD at h
  split at h
  · rename_i e1; subst e1; exact ((ldel_mem e).1 h).1
  · exact h
theorem half_sorted (h : Inv S room) (k : Nat) : Sorted (halfD S D s k) := by
  unfold halfD
  split
  · exact ldel_sorted (h.sorted D)
  · exact h.sorted k
theorem half_names (h : Inv S room) (hg : lget s (S.ino D).dir = some (I : Int)) (j : Int) : sumF (fun k => names j (halfD S D s k)) 200 + (if (I : Int) = j then 1 else 0) = S.names j 200 := by
  obtain ⟨_, hDn, _⟩ := h.lead hg
  obtain ⟨y, hy⟩ : ∃ y : Ino, y.dir = ldel s (S.ino D).dir := ⟨{ S.ino D with dir := ldel s (S.ino D).dir }, rfl⟩
  have e1 : sumF (fun k => names j (halfD S D s k)) 200 = (⟨upd S.ino D y, 0⟩ : BS).names j 200 := sumF_congr fun k _ _ => by
    show names j (halfD S D s k) = names j (upd S.ino D y k).dir
    unfold halfD
    by_cases e : k = D
    · subst e; rw [if_pos rfl, upd_same, hy]
    · rw [if_neg e, upd_other _ _ e]
  have e2 := names_put S j D y 0 hDn.1 hDn.2
  have e3 := names_ldel (i := j) (h.sorted D) hg
  rw [hy] at e2
  omega
theorem Moved.names (d : Moved S S' D T I s u) (h : Inv S room) (hg : lget s (S.ino D).dir = some (I : Int)) (hu : lget u (halfD S D s T) = none) (hT : 1 ≤ T ∧ T ≤ 200) (j : Int) : S'.names j 200 = S.names j 200 := by
  have e0 := half_names h hg j
  obtain ⟨y, hy⟩ : ∃ y : Ino, y.dir = lset u I (halfD S D s T) := ⟨{ Ino.nil with dir := lset u I (halfD S D s T) }, rfl⟩
  obtain ⟨SM, hSM⟩ : ∃ SM : BS, ∀ k, (SM.ino k).dir = halfD S D s k := ⟨⟨fun k => { Ino.nil with dir := halfD S D s k }, 0⟩, fun _ => rfl⟩
  have e1 : S'.names j 200 = (⟨upd SM.ino T y, 0⟩ : BS).names j 200 := sumF_congr fun k _ _ => by
    show br.names j (S'.ino k).dir = br.names j (upd SM.ino T y k).dir
    rw [d.dir]
    by_cases e : k = T
    · subst e; rw [if_pos rfl, upd_same, hy]
    · rw [if_neg e, upd_other _ _ e, hSM]
  have e2 := names_put SM j T y 0 hT.1 hT.2
  have e3 := names_lset (i := j) (v := (I : Int)) hu
  have e4 : SM.names j 200 = sumF (fun k => br.names j (halfD S D s k)) 200 := sumF_congr fun k _ _ => by show br.names j (SM.ino k).dir = _; rw [hSM]
  rw [hy, hSM] at e2
  rw [e1]
  omega
theorem Moved.inv (d : Moved S S' D T I s u) (h : Inv S room) (hIT : I ≠ T) (hg : lget s (S.ino D).dir = some (I : Int)) (hu : lget u (halfD S D s T) = none) (hTk : (S.ino T).kind = 2) (hTl : (S.ino T).links ≠ 0) (hs : nerr u.data.toList = 0 ∧ dotB u = false) : Inv S' room := by
  obtain ⟨hDk, hDn, I', hI', i1, i2, i3, i4, i5⟩ := h.lead hg
  obtain rfl : I = I' := by omega
  have hTn := h.num (k := T) (by rw [hTk]; decide)
  have N := d.names h hg hu hTn
  have hDl : (S.ino D).links ≠ 0 := fun e => by rw [h.gone D hDk e] at hg; cases hg
  have hem : ∀ k, ∀ e ∈ (S'.ino k).dir, (k = T ∧ e = (u, (I : Int))) ∨ e ∈ halfD S D s k := fun k e he => by
    rw [d.dir] at he
    split at he
    · rename_i e1; subst e1
      rcases (lset_mem (half_sorted h k) e).1 he with h1 | h1
      · exact .inl ⟨rfl, h1⟩
      · exact .inr h1.1
    · exact .inr he
  refine ⟨fun k hk => ?_, fun k hk => ?_, fun k => by rw [d.kind]; exact h.kinds k, fun k => by rw [d.links, d.holds]; exact h.nums k, fun k hk => by rw [d.links, d.holds]; rw [d.kind] at hk; exact h.kept k hk, ?_, fun k => by rw [d.body]; exact h.body k, fun k hk => by rw [d.body]; rw [d.kind] at hk; exact h.noBody k hk,
    fun k hk => ?_, fun k hk => by rw [d.target]; rw [d.kind] at hk; exact h.noTarget k hk, fun k => by rw [d.target]; exact h.target k, fun k => ?_, fun k e he => ?_, ?_, by rw [d.used]; exact h.room, fun k h1 h2 => by rw [N, d.links]; exact h.links k h1 h2, fun k => by rw [d.links]; exact h.twenty k, fun k hk h0 => ?_, fun k e he hk => ?_, fun k hk => by rw [d.links]; rw [d.kind] at hk; exact h.single k hk⟩
  · rw [← ino_same d (k := k) (by omega) (by omega) (by omega)]; exact h.out k hk
  · rw [d.kind] at hk
    have a1 : k ≠ T := fun e => by rw [e, hTk] at hk; cases hk
    have a2 : k ≠ D := fun e => by rw [e, hDk] at hk; cases hk
    have a3 : k ≠ I := fun e => i5 (by rw [← e]; exact hk)
    rw [← ino_same d a1 a2 a3]; exact h.none k hk
  · rw [d.kind, d.links, d.parent, if_neg (fun x => i3 x.1.symm)]; exact h.root
  · rw [d.kind] at hk
    rw [d.dir, if_neg (fun e => hk (by rw [e]; exact hTk))]
    unfold halfD
    rw [if_neg (fun e => hk (by rw [e]; exact hDk))]
    exact h.noDir k hk
  · rw [d.dir]; split
    · exact lset_sorted (half_sorted h T)
    · exact half_sorted h k
  · rcases hem k e he with ⟨_, rfl⟩ | h1
    · exact ⟨hs.1, hs.2, by show (1 : Int) ≤ (I : Int); omega, by show (I : Int) ≤ 200; omega⟩
    · exact h.good k e (half_sub k e h1)
  · rw [d.used, h.used]
    exact sumF_congr fun k _ _ => by show (S.ino k).body.n = (S'.ino k).body.n; rw [d.body]
  · rw [d.kind] at hk
    rw [d.links] at h0
    rw [d.dir, if_neg (fun e => hTl (by rw [← e]; exact h0))]
    unfold halfD
    rw [if_neg (fun e => hDl (by rw [← e]; exact h0))]
    exact h.gone k hk h0
  · show (S'.ino e.2.toNat).parent = _
    have hk2 : (S'.ino e.2.toNat).kind = 2 := hk
    rw [d.kind] at hk2
    by_cases e1 : e.2.toNat = I
    · rw [e1] at hk2 ⊢
      rw [d.parent, if_pos ⟨rfl, hk2⟩]
      have hkT : k = T := by
        by_cases e2 : k = T
        · exact e2
        · rcases hem k e he with ⟨h1, _⟩ | h1
          · exact absurd h1 e2
          · have h0 := half_sub k e h1
            obtain ⟨_, hkn, _⟩ := h.entry h0
            have hgd := (h.good k e h0).2.2.1
            have a1 : 0 < br.names (I : Int) (halfD S D s k) := names_mem.2 ⟨e, h1, by omega⟩
            have a2 : br.names (I : Int) (halfD S D s k) ≤ sumF (fun k => br.names (I : Int) (halfD S D s k)) 200 := sumF_le (f := fun k => br.names (I : Int) (halfD S D s k)) hkn.1 hkn.2
            have a3 := half_names h hg (I : Int)
            rw [if_pos rfl] at a3
            have a4 := h.links I i1 i2
            rw [if_neg i3] at a4
            have a5 := h.single I hk2
            omega
      rw [hkT]
    · rw [d.parent, if_neg (fun x => e1 x.1)]
      rcases hem k e he with ⟨_, rfl⟩ | h1
      · exact absurd (Int.toNat_natCast I) e1
      · exact h.up k e (half_sub k e h1) hk2
where
  ino_same {S S' : BS} {D T I : Nat} {s u : ByteArray} (d : Moved S S' D T I s u) {k : Nat} (h1 : k ≠ T) (h2 : k ≠ D) (h3 : k ≠ I) : S.ino k = S'.ino k := by
    have a := d.dir k
    have b := d.parent k
    rw [if_neg h1] at a
    unfold halfD at a
    rw [if_neg h2] at a
    rw [if_neg (fun x => h3 x.1)] at b
    have c1 := d.kind k
    have c2 := d.links k
    have c3 := d.holds k
    have c4 := d.body k
    have c5 := d.target k
    have c6 := d.marks k
    generalize S'.ino k = x at *
    generalize S.ino k = y at *
    obtain ⟨x1, x2, x3, x4, x5, x6, x7, x8⟩ := x
    obtain ⟨y1, y2, y3, y4, y5, y6, y7, y8⟩ := y
    dsimp only at *
    subst a b c1 c2 c3 c4 c5 c6
    rfl
/-- The root lies below none but itself. -/
theorem below_root (h : Inv S room) (hI : I ≠ 1) (n : Nat) : S.below 1 I n = false := by
  induction n with
  | zero => rfl
  | succ n ih =>
    have e1 : (S.at 1).parent = 1 := h.root.2.2
    unfold BS.below
    rw [e1, ih, decide_eq_false (fun e : (1 : Int) = (I : Int) => hI (by omega))]
    rfl
theorem below_up (k : Nat) (n : Nat) : S.below (k : Int) I (n + 1) = (decide (k = I) || S.below (S.ino k).parent I n) := by
  have e1 : S.at (k : Int) = S.ino k := by show S.ino ((k : Int)).toNat = _; rw [Int.toNat_natCast]
  show (decide ((k : Int) = (I : Int)) || S.below (S.at (k : Int)).parent I n) = _
  rw [e1]
  congr 1
  exact decide_eq_decide.2 (by omega)
theorem Moved.tree (d : Moved S S' D T I s u) (h : Inv S room) (ht : Tree S) (hI : I ≠ 1) (hTk : (S.ino T).kind = 2) (hTl : (S.ino T).links ≠ 0) (hb : (S.ino I).kind = 2 → S.below (T : Int) I 300 = false) : Tree S' := by
  by_cases hk2 : (S.ino I).kind = 2
  · have hb := hb hk2
    obtain ⟨deep, h200, hd⟩ := ht.bound h
    have stab : ∀ n k, (S.ino k).kind = 2 → (S.ino k).links ≠ 0 → deep k < n → S.below (k : Int) I n = S.below (k : Int) I (n + 1) := by
      intro n
      induction n with
      | zero => intro k _ _ hlt; omega
      | succ n ih =>
        intro k hk hl hlt
        by_cases e : k = 1
        · subst e
          rw [show ((1 : Nat) : Int) = 1 from rfl, below_root h hI, below_root h hI]
        · obtain ⟨p, hp, a, b, c⟩ := hd k hk hl e
          rw [below_up, below_up, hp, ih p a b (by omega)]
    refine ⟨fun k => if S.below (k : Int) I 300 = true then deep k + 201 else deep k, fun k hk hl h1 => ?_⟩
    rw [d.kind] at hk
    rw [d.links] at hl
    by_cases e : k = I
    · subst e
      refine ⟨T, by rw [d.parent, if_pos ⟨rfl, hk⟩], by rw [d.kind]; exact hTk, by rw [d.links]; exact hTl, ?_⟩
      dsimp only
      rw [if_neg (by rw [hb]; decide), if_pos (by rw [below_up, decide_eq_true rfl]; rfl)]
      have := h200 T
      omega
    · obtain ⟨p, hp, a, b, c⟩ := hd k hk hl h1
      refine ⟨p, by rw [d.parent, if_neg (fun x => e x.1)]; exact hp, by rw [d.kind]; exact a, by rw [d.links]; exact b, ?_⟩
      have e2 : S.below (k : Int) I 300 = S.below (p : Int) I 300 := by
        rw [below_up, hp, decide_eq_false e, Bool.false_or]
        exact stab 299 p a b (by have := h200 p; omega)
      dsimp only
      rw [e2]
      split <;> omega
  · refine ht.of (fun k hk hl => ?_) fun k hk hl => ⟨by rw [d.kind]; exact hk, by rw [d.links]; exact hl⟩
    rw [d.kind] at hk
    rw [d.links] at hl
    exact ⟨hk, hl, by rw [d.parent, if_neg (fun x => hk2 x.2)]⟩
end
end Go.Proofs.YtnnaoldpacbagaaGreat.br
end
section
namespace Go.Proofs.YtnnaoldpacbagaaGreat.br
open Go.RowKit
open Go.Proofs.YtnnaoldpacbagaaGreat.dn (En lget lset ldel nerr dotB Sorted lget_some lget_none ldel_mem ldel_sorted lset_mem lset_sorted)
open Go.Proofs.YtnnaoldpacbagaaGreat.bl (AB cut cutR cutB readR WR wr)
set_option linter.unusedVariables false

def Good (S : BS) (room : Nat) : Prop := Inv S room ∧ Tree S
theorem Good.fresh (room : Nat) : Good fresh room :=
  ⟨Inv.fresh room, fun _ => 0, fun k hk _ h1 => by rw [fresh_ino, if_neg h1] at hk; cases hk⟩
theorem at_nat (S : BS) (k : Nat) : S.at (k : Int) = S.ino k := by show S.ino ((k : Int)).toNat = _; rw [Int.toNat_natCast]
theorem put_nat (S : BS) (i : Nat) (x : Ino) (k : Nat) : (S.put (i : Int) x).ino k = if k = i then x else S.ino k := by
  show upd S.ino ((i : Int)).toNat x k = _
  rw [Int.toNat_natCast]; rfl
theorem isI_yes {S : BS} {i : Int} (h : S.isI i = true) : ∃ I : Nat, i = (I : Int) ∧ 1 ≤ I ∧ I ≤ 200 ∧ (S.ino I).kind ≠ 0 := by
  unfold BS.isI at h
  obtain ⟨h1, h2, h3⟩ := of_decide_eq_true h
  exact ⟨i.toNat, by omega, by omega, by omega, h3⟩
theorem dirE_ok {S : BS} {d : Int} {c : Bool} (h : S.dirE d c = 0) : ∃ D : Nat, d = (D : Int) ∧ 1 ≤ D ∧ D ≤ 200 ∧ (S.ino D).kind = 2 ∧ (c = true → (S.ino D).links ≠ 0) := by
  unfold BS.dirE at h
  cases hi : S.isI d
  · rw [if_pos hi] at h; cases h
  · rw [if_neg (by rw [hi]; decide)] at h
    obtain ⟨D, rfl, h1, h2, h3⟩ := isI_yes hi
    rw [at_nat] at h
    by_cases hk : (S.ino D).kind = 2
    · rw [if_neg (by simpa using hk)] at h
      refine ⟨D, rfl, h1, h2, hk, fun hc hl => ?_⟩
      rw [if_pos ⟨hc, hl⟩] at h; cases h
    · rw [if_pos hk] at h; cases h
theorem nameE_ok {s : ByteArray} (h : nameE s = 0) : nerr s.data.toList = 0 ∧ dotB s = false := by
  unfold nameE at h
  by_cases e : nerr s.data.toList = 0 ∧ dotB s = true
  · rw [if_pos e] at h; cases h
  · rw [if_neg e] at h
    refine ⟨h, ?_⟩
    cases hd : dotB s
    · rfl
    · exact absurd ⟨h, hd⟩ e
theorem get_ok {S : BS} {d : Int} {s : ByteArray} (h : (S.get d s).2 = 0) : ∃ D : Nat, d = (D : Int) ∧ 1 ≤ D ∧ D ≤ 200 ∧ (S.ino D).kind = 2 ∧ lget s (S.ino D).dir = some (S.get d s).1 := by
  unfold BS.get at h ⊢
  by_cases e : S.dirE d false = 0
  · rw [if_neg (by simpa using e)] at h ⊢
    obtain ⟨D, rfl, h1, h2, h3, _⟩ := dirE_ok e
    rw [at_nat] at h ⊢
    refine ⟨D, rfl, h1, h2, h3, ?_⟩
    cases hg : lget s (S.ino D).dir
    · rw [hg] at h; cases h
    · rfl
  · rw [if_pos e] at h; exact absurd h e
theorem vacant_ok {S : BS} {d : Int} {s : ByteArray} (h : S.vacant d s = 0) : ∃ D : Nat, d = (D : Int) ∧ 1 ≤ D ∧ D ≤ 200 ∧ (S.ino D).kind = 2 ∧ (S.ino D).links ≠ 0 ∧ lget s (S.ino D).dir = none ∧ nerr s.data.toList = 0 ∧ dotB s = false := by
  unfold BS.vacant at h
  by_cases e : S.dirE d true = 0
  · rw [if_neg (by simpa using e)] at h
    by_cases e2 : nameE s = 0
    · rw [if_neg (by simpa using e2)] at h
      obtain ⟨D, rfl, h1, h2, h3, h4⟩ := dirE_ok e
      rw [at_nat] at h
      refine ⟨D, rfl, h1, h2, h3, h4 rfl, ?_, nameE_ok e2⟩
      cases hg : lget s (S.ino D).dir
      · rfl
      · rw [hg] at h; cases h
    · rw [if_pos e2] at h; exact absurd h e2
  · rw [if_pos e] at h; exact absurd h e
theorem free_spec (S : BS) (n k : Nat) : k ≤ S.free k n ∧ S.free k n ≤ k + n ∧ (S.free k n < k + n → (S.ino (S.free k n)).kind = 0) ∧ ∀ j, k ≤ j → j < S.free k n → (S.ino j).kind ≠ 0 := by
  induction n generalizing k with
  | zero => exact ⟨Nat.le_refl _, Nat.le_refl _, fun h => absurd h (Nat.lt_irrefl _), fun j h1 h2 => by have : j < k := h2; omega⟩
  | succ n ih =>
    unfold BS.free
    by_cases e : (S.ino k).kind = 0
    · rw [if_pos e]; exact ⟨Nat.le_refl _, by omega, fun _ => e, fun j h1 h2 => by omega⟩
    · rw [if_neg e]
      obtain ⟨a, b, c, d⟩ := ih (k + 1)
      exact ⟨by omega, by omega, fun h => c (by omega), fun j h1 h2 => by
        by_cases e1 : j = k
        · rw [e1]; exact e
        · exact d j (by omega) h2⟩
theorem lay_gain {S : BS} {D I : Nat} {s : ByteArray} {x : Ino} (hne : I ≠ D) (hf : Fits (S.ino I) x D) : Gain S ((S.put (I : Int) x).putDir (D : Int) (lset s I ((S.put (I : Int) x).at (D : Int)).dir)) D I s := by
  have e1 : (S.put (I : Int) x).at (D : Int) = S.ino D := by rw [at_nat, put_nat, if_neg (fun e => hne e.symm)]
  unfold BS.putDir
  rw [e1]
  refine ⟨fun k h1 h2 => ?_, ?_, ?_, rfl⟩
  · rw [put_nat, if_neg h1, put_nat, if_neg h2]
  · rw [put_nat, if_pos rfl]
  · rw [put_nat, if_neg hne, put_nat, if_pos rfl]; exact hf
theorem Good.make {S : BS} {room : Nat} (h : Good S room) (d : Int) (s : ByteArray) (kind : Int) (t : ByteArray) : Good (S.make d s kind t).2 room := by
  unfold BS.make
  by_cases e1 : S.vacant d s = 0
  · rw [if_neg (by simpa using e1)]
    cases e2 : badKind kind t
    · rw [if_neg (by decide)]
      dsimp only
      by_cases e3 : 200 < S.free 1 200
      · rw [if_pos e3]; exact h
      · rw [if_neg e3]
        obtain ⟨D, rfl, h1, h2, hk, hl, hg, hs⟩ := vacant_ok e1
        obtain ⟨f1, f2, f3, _⟩ := free_spec S 200 1
        have hz := f3 (by omega)
        generalize S.free 1 200 = n at *
        have hne : n ≠ D := fun e => by rw [e, hk] at hz; cases hz
        have hnil := h.1.none n hz
        unfold badKind at e2
        have hb := of_decide_eq_false e2
        have hf : Fits (S.ino n) ⟨kind, 1, 0, 0, if kind = 2 then (D : Int) else 0, abE, [], t⟩ D := by
          rw [hnil]
          refine ⟨⟨by show 1 ≤ kind; omega, by show kind ≤ 4; omega⟩, by decide, ⟨rfl, by show (1 : Int) ≤ 20; decide⟩, by show (0 : Int) ≤ 0; decide, rfl, ⟨rfl, rfl⟩, fun _ => rfl, fun h3 => ?_, ?_, fun h2 => ⟨rfl, if_pos h2⟩⟩
          · show t = _
            by_cases e : t = ⟨#[]⟩
            · exact e
            · exact absurd (Or.inr (Or.inr (Or.inl ⟨h3, e⟩))) hb
          · show t.size ≤ 400
            by_cases h3 : kind = 3
            · omega
            · have : t = ⟨#[]⟩ := by
                by_cases e : t = ⟨#[]⟩
                · exact e
                · exact absurd (Or.inr (Or.inr (Or.inl ⟨h3, e⟩))) hb
              rw [this]; decide
        have hG := lay_gain (s := s) hne hf
        exact ⟨hG.inv h.1 ⟨f1, by omega⟩ hk hl hg hs, hG.tree h.1 h.2 hk hl⟩
    · rw [if_pos rfl]; exact h
  · rw [if_pos e1]; exact h
theorem Good.link {S : BS} {room : Nat} (h : Good S room) (d : Int) (s : ByteArray) (i : Int) : Good (S.link d s i).2 room := by
  unfold BS.link
  by_cases e1 : S.vacant d s = 0
  · rw [if_neg (by simpa using e1)]
    by_cases e2 : S.isI i = false ∨ (S.at i).links = 0
    · rw [if_pos e2]; exact h
    · rw [if_neg e2]
      have hi : S.isI i = true := by
        cases hb : S.isI i
        · exact absurd (.inl hb) e2
        · rfl
      obtain ⟨I, rfl, i1, i2, i3⟩ := isI_yes hi
      rw [at_nat] at *
      by_cases e3 : (S.ino I).kind = 2
      · rw [if_pos e3]; exact h
      · rw [if_neg e3]
        by_cases e4 : 20 ≤ (S.ino I).links
        · rw [if_pos e4]; exact h
        · rw [if_neg e4]
          obtain ⟨D, rfl, h1, h2, hk, hl, hg, hs⟩ := vacant_ok e1
          have hne : I ≠ D := fun e => e3 (by rw [e]; exact hk)
          have hd := h.1.noDir I e3
          have hn := h.1.nums I
          have hkk := h.1.kinds I
          have hf : Fits (S.ino I) { S.ino I with links := (S.ino I).links + 1 } D :=
            ⟨⟨by show 1 ≤ (S.ino I).kind; omega, hkk.2⟩, e3, ⟨rfl, by show (S.ino I).links + 1 ≤ 20; omega⟩, hn.2, rfl, ⟨hd, hd⟩, h.1.noBody I, h.1.noTarget I, h.1.target I, fun e => absurd e e3⟩
          have hG := lay_gain (s := s) hne hf
          exact ⟨hG.inv h.1 ⟨i1, i2⟩ hk hl hg hs, hG.tree h.1 h.2 hk hl⟩
  · rw [if_pos e1]; exact h
theorem Good.drop {S : BS} {room D : Nat} (h : Good S room) {s : ByteArray} {v : Int} (hg : lget s (S.ino D).dir = some v) (hd : (S.at v).kind = 2 → (S.at v).dir = []) : Good (S.drop (D : Int) s v) room ∧ ∃ I : Nat, v = (I : Int) ∧ I ≠ D ∧ Drop S (S.drop (D : Int) s v) D I s := by
  obtain ⟨hDk, hDn, I, rfl, i1, i2, i3, i4, i5⟩ := h.1.lead hg
  have hne : I ≠ D := fun e => by subst e; exact h.1.own h.2 hg
  rw [at_nat] at hd
  have dd := drop_drop (S := S) s hne
  exact ⟨⟨dd.inv h.1 hne hd hg, dd.tree h.1 h.2 hne hd hg⟩, I, rfl, hne, dd⟩
theorem Good.unlink {S : BS} {room : Nat} (h : Good S room) (d : Int) (s : ByteArray) : Good (S.unlink d s).2 room := by
  unfold BS.unlink
  by_cases e1 : S.dirE d true = 0
  · rw [if_neg (by simpa using e1)]
    by_cases e2 : (S.get d s).2 = 0
    · rw [if_neg (by simpa using e2)]
      obtain ⟨D, rfl, h1, h2, hk, hg⟩ := get_ok e2
      by_cases e3 : (S.at (S.get (D : Int) s).1).kind = 2
      · rw [if_pos e3]; exact h
      · rw [if_neg e3]
        exact (h.drop hg (fun e => absurd e e3)).1
    · rw [if_pos e2]; exact h
  · rw [if_pos e1]; exact h
theorem Good.rmdir {S : BS} {room : Nat} (h : Good S room) (d : Int) (s : ByteArray) : Good (S.rmdir d s).2 room := by
  unfold BS.rmdir
  by_cases e1 : S.dirE d true = 0
  · rw [if_neg (by simpa using e1)]
    by_cases e2 : (S.get d s).2 = 0
    · rw [if_neg (by simpa using e2)]
      obtain ⟨D, rfl, h1, h2, hk, hg⟩ := get_ok e2
      by_cases e3 : (S.at (S.get (D : Int) s).1).kind = 2
      · rw [if_neg (by simpa using e3)]
        by_cases e4 : (S.at (S.get (D : Int) s).1).dir = []
        · rw [if_neg (by simpa using e4)]
          exact (h.drop hg (fun _ => e4)).1
        · rw [if_pos e4]; exact h
      · rw [if_pos e3]; exact h
    · rw [if_pos e2]; exact h
  · rw [if_pos e1]; exact h
end Go.Proofs.YtnnaoldpacbagaaGreat.br
end
section
namespace Go.Proofs.YtnnaoldpacbagaaGreat.br
open Go.RowKit
open Go.Proofs.YtnnaoldpacbagaaGreat.dn (En lget lset ldel nerr dotB Sorted lget_some lget_none ldel_mem ldel_sorted lset_mem lset_sorted)
open Go.Proofs.YtnnaoldpacbagaaGreat.bl (AB cut cutR cutB readR WR wr)
set_option linter.unusedVariables false

theorem lget_ldel {s u : ByteArray} (h : s ≠ u) (L : List En) : lget s (ldel u L) = lget s L := by
  induction L with
  | nil => rfl
  | cons x l ih =>
    by_cases e : x.1 = u
    · have h1 : ldel u (x :: l) = ldel u l := by simp [ldel, e]
      have h2 : lget s (x :: l) = lget s l := by
        have : ¬ x.1 = s := fun e1 => h (e1.symm.trans e)
        simp [lget, this]
      rw [h1, h2, ih]
    · have h1 : ldel u (x :: l) = x :: ldel u l := by simp [ldel, e]
      rw [h1]
      by_cases e2 : x.1 = s
      · simp [lget, e2]
      · have a : ∀ m, lget s (x :: m) = lget s m := fun m => by simp [lget, e2]
        rw [a, a, ih]
theorem lget_gone (u : ByteArray) (L : List En) : lget u (ldel u L) = none := lget_none.2 fun e he => ((ldel_mem e).1 he).2
theorem half_none {S : BS} {D T : Nat} {s u : ByteArray} (h : lget u (S.ino T).dir = none) : lget u (halfD S D s T) = none :=
  lget_none.2 fun e he => (lget_none.1 h) e (half_sub T e he)
theorem below_self {S : BS} {I n : Nat} : S.below (I : Int) I (n + 1) = true := by rw [below_up, decide_eq_true rfl]; rfl
theorem Good.move {S : BS} {room D T I : Nat} (h : Good S room) {s u : ByteArray} (hg : lget s (S.ino D).dir = some (I : Int)) (hu : lget u (S.ino T).dir = none ∨ lget u (halfD S D s T) = none) (hTk : (S.ino T).kind = 2) (hTl : (S.ino T).links ≠ 0) (hs : nerr u.data.toList = 0 ∧ dotB u = false)
    (hb : (S.ino I).kind = 2 → S.below (T : Int) I 300 = false) : Good (S.move D s T u I) room := by
  obtain ⟨hDk, hDn, I', hI', i1, i2, i3, i4, i5⟩ := h.1.lead hg
  obtain rfl : I = I' := by omega
  have h1 : I ≠ D := fun e => by subst e; exact h.1.own h.2 hg
  have h2 : I ≠ T := fun e => by
    subst e
    have := hb hTk
    rw [below_self] at this; cases this
  have d := move_moved (S := S) s u h1 h2
  have hu2 : lget u (halfD S D s T) = none := by
    rcases hu with h3 | h3
    · exact half_none h3
    · exact h3
  exact ⟨d.inv h.1 h2 hg hu2 hTk hTl hs, d.tree h.1 h.2 i3 hTk hTl hb⟩
theorem below_zero {S : BS} {I : Nat} (h0 : S.ino 0 = Ino.nil) (hI : 1 ≤ I) (n : Nat) : S.below 0 I n = false := by
  induction n with
  | zero => rfl
  | succ n ih =>
    have e1 : (S.at 0).parent = 0 := by show (S.ino 0).parent = 0; rw [h0]; rfl
    unfold BS.below
    rw [e1, ih, decide_eq_false (fun e : (0 : Int) = (I : Int) => by omega)]
    rfl
theorem Drop.below {S S' : BS} {D I J : Nat} {s : ByteArray} (d : Drop S S' D I s) (h0 : S'.ino 0 = Ino.nil) (hJ : 1 ≤ J) (n : Nat) (x : Int) (h : S'.below x J n = true) : S.below x J n = true := by
  induction n generalizing x with
  | zero => cases h
  | succ n ih =>
    unfold BS.below at h ⊢
    by_cases e : x = (J : Int)
    · rw [decide_eq_true e]; rfl
    · rw [decide_eq_false e, Bool.false_or] at h ⊢
      have hp : (S'.at x).parent = (S.at x).parent ∨ (S'.at x).parent = 0 := by
        show (S'.ino x.toNat).parent = (S.ino x.toNat).parent ∨ (S'.ino x.toNat).parent = 0
        by_cases e1 : (S'.ino x.toNat).kind = 0
        · by_cases e2 : x.toNat = I
          · rcases d.ino with ⟨h1, _⟩ | ⟨h1, _⟩
            · right; rw [e2, h1]; rfl
            · left; rw [e2, h1]
          · by_cases e3 : x.toNat = D
            · left; rw [e3, d.dir]
            · left; rw [d.oth _ e3 e2]
        · exact .inl (d.keep _ e1).2.1
      rcases hp with h1 | h1
      · rw [h1] at h; exact ih _ h
      · rw [h1, below_zero h0 hJ] at h; cases h
theorem Good.rename {S : BS} {room : Nat} (h : Good S room) (d : Int) (s : ByteArray) (t : Int) (u : ByteArray) : Good (S.rename d s t u).2 room := by
  unfold BS.rename
  by_cases e1 : S.dirE d true = 0
  · rw [if_neg (by simpa using e1)]
    by_cases e2 : (S.get d s).2 = 0
    · rw [if_neg (by simpa using e2)]
      by_cases e3 : S.dirE t true = 0
      · rw [if_neg (by simpa using e3)]
        by_cases e4 : nameE u = 0
        · rw [if_neg (by simpa using e4)]
          obtain ⟨D, rfl, h1, h2, hk, hg⟩ := get_ok e2
          obtain ⟨T, rfl, t1, t2, tk, tl⟩ := dirE_ok e3
          have tl := tl rfl
          have hs := nameE_ok e4
          generalize (S.get (D : Int) s).1 = v at *
          obtain ⟨_, _, I, rfl, i1, i2, i3, i4, i5⟩ := h.1.lead hg
          dsimp only
          rw [at_nat S I, at_nat S T]
          by_cases e5 : (S.ino I).kind = 2 ∧ S.below (T : Int) I 300 = true
          · rw [if_pos e5]; exact h
          · rw [if_neg e5]
            have hb : (S.ino I).kind = 2 → S.below (T : Int) I 300 = false := fun hk2 => by
              cases hbb : S.below (T : Int) I 300
              · rfl
              · exact absurd ⟨hk2, hbb⟩ e5
            cases hT : lget u (S.ino T).dir with
            | none => exact h.move hg (.inl hT) tk tl hs hb
            | some old =>
              dsimp only
              by_cases e6 : old = (I : Int)
              · rw [if_pos e6]; exact h
              · rw [if_neg e6]
                by_cases e7 : (S.at old).kind = 2 ∧ (S.ino I).kind ≠ 2
                · rw [if_pos e7]; exact h
                · rw [if_neg e7]
                  by_cases e8 : (S.at old).kind ≠ 2 ∧ (S.ino I).kind = 2
                  · rw [if_pos e8]; exact h
                  · rw [if_neg e8]
                    by_cases e9 : (S.at old).kind = 2 ∧ (S.at old).dir ≠ []
                    · rw [if_pos e9]; exact h
                    · rw [if_neg e9]
                      have hd : (S.at old).kind = 2 → (S.at old).dir = [] := fun x => by
                        by_cases y : (S.at old).dir = []
                        · exact y
                        · exact absurd ⟨x, y⟩ e9
                      obtain ⟨hgood, J, rfl, hJ, dd⟩ := h.drop hT hd
                      rw [at_nat] at hd
                      have hdJ : (S.ino J).dir = [] := by
                        by_cases e : (S.ino J).kind = 2
                        · exact hd e
                        · exact h.1.noDir J e
                      have hIJ : I ≠ J := fun e => e6 (by rw [e])
                      have hdirs := dd.dirs hJ hdJ
                      have hgS : lget s ((S.drop (T : Int) u J).ino D).dir = some (I : Int) := by
                        rw [hdirs]
                        by_cases e : D = T
                        · subst e
                          rw [if_pos rfl, lget_ldel (fun e => by subst e; rw [hg] at hT; exact e6 (by injection hT with x; exact x.symm))]
                          exact hg
                        · rw [if_neg e]; exact hg
                      have huS : lget u ((S.drop (T : Int) u J).ino T).dir = none := by rw [hdirs, if_pos rfl]; exact lget_gone u _
                      have hT0 : (S.drop (T : Int) u J).ino T = { S.ino T with dir := ldel u (S.ino T).dir } := dd.dir
                      refine hgood.move hgS (.inl huS) (by rw [hT0]; exact tk) (by rw [hT0]; exact tl) hs fun hk2 => ?_
                      have hkI : (S.ino I).kind = 2 := by rw [← (dd.keep I (by rw [hk2]; decide)).1]; exact hk2
                      cases hbb : (S.drop (T : Int) u J).below (T : Int) I 300
                      · rfl
                      · have := dd.below (hgood.1.out 0 (.inl rfl)) i1 300 _ hbb
                        rw [hb hkI] at this; cases this
        · rw [if_pos e4]; exact h
      · rw [if_pos e3]; exact h
    · rw [if_pos e2]; exact h
  · rw [if_pos e1]; exact h
theorem Good.tweak {S : BS} {room I : Nat} (h : Good S room) (x : Ino) (hk : x.kind = (S.ino I).kind) (hl : x.links = (S.ino I).links) (hp : x.parent = (S.ino I).parent) (hb : x.body = (S.ino I).body) (hd : x.dir = (S.ino I).dir)
    (ht : x.target = (S.ino I).target) (h0 : 0 ≤ x.holds) (hn : x.kind ≠ 0) (hkp : x.links ≠ 0 ∨ x.holds ≠ 0) : Good (S.put (I : Int) x) room := by
  have e : S.put (I : Int) x = ⟨upd S.ino I x, S.used⟩ := by unfold BS.put; rw [Int.toNat_natCast]
  rw [e]
  have K : ∀ k, (upd S.ino I x k).kind = (S.ino k).kind ∧ (upd S.ino I x k).links = (S.ino k).links ∧ (upd S.ino I x k).parent = (S.ino k).parent := fun k => by
    by_cases e : k = I
    · subst e; rw [upd_same]; exact ⟨hk, hl, hp⟩
    · rw [upd_other _ _ e]; exact ⟨rfl, rfl, rfl⟩
  exact ⟨h.1.tweak I x hk hl hp hb hd ht h0 hn hkp, h.2.of (fun k a b => ⟨(K k).1 ▸ a, (K k).2.1 ▸ b, (K k).2.2⟩) fun k a b => ⟨(K k).1.trans a, fun c => b ((K k).2.1.symm.trans c)⟩⟩
theorem Good.hold {S : BS} {room : Nat} (h : Good S room) (i : Int) : Good (S.hold i).2 room := by
  unfold BS.hold
  cases hi : S.isI i
  · exact h
  · rw [if_neg (by decide)]
    obtain ⟨I, rfl, i1, i2, i3⟩ := isI_yes hi
    rw [at_nat]
    have := (h.1.nums I).2
    exact h.tweak _ rfl rfl rfl rfl rfl rfl (by show 0 ≤ (S.ino I).holds + 1; omega) i3 (.inr (by show (S.ino I).holds + 1 ≠ 0; omega))
theorem Good.mark {S : BS} {room : Nat} (h : Good S room) (i m : Int) : Good (S.mark i m).2 room := by
  unfold BS.mark
  cases hi : S.isI i
  · exact h
  · rw [if_neg (by decide)]
    obtain ⟨I, rfl, i1, i2, i3⟩ := isI_yes hi
    rw [at_nat]
    exact h.tweak _ rfl rfl rfl rfl rfl rfl (h.1.nums I).2 i3 (h.1.kept I i3)
theorem Good.release {S : BS} {room : Nat} (h : Good S room) (i : Int) : Good (S.release i).2 room := by
  unfold BS.release
  cases hi : S.isI i
  · exact h
  · rw [if_neg (by decide)]
    obtain ⟨I, rfl, i1, i2, i3⟩ := isI_yes hi
    rw [at_nat]
    by_cases e : (S.ino I).holds = 0
    · rw [if_pos e]; exact h
    · rw [if_neg e]
      have hn := h.1.nums I
      unfold BS.less
      dsimp only
      rw [at_nat]
      by_cases e2 : (S.ino I).links - 0 = 0 ∧ (S.ino I).holds - 1 = 0
      · rw [if_pos e2]
        have d : Lost S ⟨upd S.ino ((I : Int)).toNat Ino.nil, S.used - (S.ino I).body.n⟩ I :=
          ⟨fun k hk => by show upd _ ((I : Int)).toNat _ k = _; rw [Int.toNat_natCast, upd_other _ _ hk], by show upd _ ((I : Int)).toNat _ I = _; rw [Int.toNat_natCast, upd_same], rfl⟩
        exact ⟨d.inv h.1 i3 (by omega), d.tree h.2 (by omega)⟩
      · rw [if_neg e2]
        exact h.tweak _ rfl (Int.sub_zero _) rfl rfl rfl rfl (by show 0 ≤ (S.ino I).holds - 1; omega) i3 (by show (S.ino I).links - 0 ≠ 0 ∨ (S.ino I).holds - 1 ≠ 0; omega)
theorem fileE_ok {S : BS} {i : Int} (h : S.fileE i = 0) : ∃ I : Nat, i = (I : Int) ∧ 1 ≤ I ∧ I ≤ 200 ∧ (S.ino I).kind = 1 := by
  unfold BS.fileE BS.kindOf at h
  cases hi : S.isI i
  · rw [hi] at h; cases h
  · rw [hi] at h
    obtain ⟨I, rfl, i1, i2, i3⟩ := isI_yes hi
    rw [at_nat] at h
    refine ⟨I, rfl, i1, i2, ?_⟩
    by_cases e : (S.ino I).kind = 1
    · exact e
    · simp only [if_true] at h
      rw [if_neg i3] at h
      by_cases e2 : (S.ino I).kind = 2
      · rw [if_pos e2] at h; cases h
      · rw [if_neg e2, if_neg e] at h; cases h
theorem Good.turn {S : BS} {room I : Nat} (h : Good S room) (hk : (S.ino I).kind = 1) {b : AB} (hb : b.Ok) (hr : S.used + b.n - (S.ino I).body.n ≤ room) : Good ⟨upd S.ino I { S.ino I with body := b }, S.used + b.n - (S.ino I).body.n⟩ room := by
  have d : Turned S ⟨upd S.ino I { S.ino I with body := b }, S.used + b.n - (S.ino I).body.n⟩ I b := ⟨fun k hk => upd_other _ _ hk, upd_same _ _ _, rfl⟩
  exact ⟨d.inv h.1 hk hb hr, d.tree h.2⟩
end Go.Proofs.YtnnaoldpacbagaaGreat.br
end
section
namespace Go.Proofs.YtnnaoldpacbagaaGreat.br
open Go.RowKit
open Go.Proofs.YtnnaoldpacbagaaGreat.dn (En lget lset ldel nerr dotB Sorted lget_some lget_none ldel_mem ldel_sorted lset_mem lset_sorted sorted_ext names_inj)
open Go.Proofs.YtnnaoldpacbagaaGreat.bl (AB cut cutR cutB readR WR wr)
set_option linter.unusedVariables false

theorem ldel_lset {s : ByteArray} {v : Int} {L : List En} (h : Sorted L) (hn : lget s L = none) : ldel s (lset s v L) = L := by
  refine sorted_ext (ldel_sorted (lset_sorted h)) h fun e => ?_
  rw [ldel_mem, lset_mem h]
  constructor
  · rintro ⟨h1 | h1, h2⟩
    · subst h1; exact absurd rfl h2
    · exact h1.1
  · intro he
    have h1 := lget_none.1 hn e he
    exact ⟨.inr ⟨he, h1⟩, h1⟩
theorem lset_ldel {s : ByteArray} {v : Int} {L : List En} (h : Sorted L) (hg : lget s L = some v) : lset s v (ldel s L) = L := by
  refine sorted_ext (lset_sorted (ldel_sorted h)) h fun e => ?_
  rw [lset_mem (ldel_sorted h), ldel_mem]
  have hm := (lget_some h).1 hg
  constructor
  · rintro (rfl | h1)
    · exact hm
    · exact h1.1.1
  · intro he
    by_cases e1 : e.1 = s
    · exact .inl (names_inj h he hm e1)
    · exact .inr ⟨⟨he, e1⟩, e1⟩
theorem lget_lset {s : ByteArray} {v : Int} {L : List En} (h : Sorted L) : lget s (lset s v L) = some v := (lget_some (lset_sorted h)).2 ((lset_mem h _).2 (.inl rfl))
theorem lget_lset_other {s u : ByteArray} {v : Int} {L : List En} (h : Sorted L) (hn : s ≠ u) : lget s (lset u v L) = lget s L := by
  cases hg : lget s L with
  | none =>
    refine lget_none.2 fun e he => ?_
    rcases (lset_mem h e).1 he with rfl | h1
    · exact fun e1 => hn e1.symm
    · exact lget_none.1 hg e h1.1
  | some w => exact (lget_some (lset_sorted h)).2 ((lset_mem h _).2 (.inr ⟨(lget_some h).1 hg, hn⟩))
theorem BS.ext' {S S' : BS} (h1 : ∀ k, S.ino k = S'.ino k) (h2 : S.used = S'.used) : S = S' := by
  obtain ⟨f, u⟩ := S
  obtain ⟨g, v⟩ := S'
  obtain rfl : f = g := funext h1
  obtain rfl : u = v := h2
  rfl
/-- What was made, with whatever bytes it was given, is taken away again: all is as it was. -/
theorem made_gone {S S1 S2 : BS} {room D I : Nat} {s : ByteArray} (h : Inv S room) (hz : (S.ino I).kind = 0) (hne : I ≠ D) (hn : lget s (S.ino D).dir = none)
    (a1 : ∀ k, k ≠ D → k ≠ I → S1.ino k = S.ino k) (a2 : S1.ino D = { S.ino D with dir := lset s I (S.ino D).dir }) (a3 : S1.used = S.used + (S1.ino I).body.n) (a4 : (S1.ino I).links = 1 ∧ (S1.ino I).holds = 0) (d : Drop S1 S2 D I s) : S2 = S := by
  refine BS.ext' (fun k => ?_) ?_
  · by_cases e1 : k = I
    · subst e1
      rcases d.ino with ⟨h1, _⟩ | ⟨_, h1, _⟩
      · rw [h1, h.none k hz]
      · omega
    · by_cases e2 : k = D
      · subst e2
        have e3 : (S1.ino k).dir = lset s I (S.ino k).dir := by rw [a2]
        rw [d.dir, e3, ldel_lset (h.sorted k) hn, a2]
      · rw [d.oth k e2 e1, a1 k e2 e1]
  · rcases d.ino with ⟨_, _, _, h1⟩ | ⟨_, h1, _⟩
    · rw [h1, a3]; omega
    · omega
/-- Moved there and back: all is as it was. -/
theorem moved_back {S S1 S2 : BS} {room D T I : Nat} {s u : ByteArray} (h : Inv S room) (hg : lget s (S.ino D).dir = some (I : Int)) (hu : lget u (S.ino T).dir = none) (d1 : Moved S S1 D T I s u) (d2 : Moved S1 S2 T D I u s) (hp : (S.ino I).kind = 2 → (S.ino I).parent = (D : Int)) : S2 = S := by
  have hs := h.sorted
  have hD1 : (S1.ino T).dir = lset u I (halfD S D s T) := by rw [d1.dir, if_pos rfl]
  have hh : ∀ k, halfD S1 T u k = halfD S D s k := fun k => by
    by_cases e : k = T
    · subst e
      show (if k = k then ldel u (S1.ino k).dir else _) = _
      rw [if_pos rfl, hD1, ldel_lset (half_sorted h k) (half_none hu)]
    · show (if k = T then _ else (S1.ino k).dir) = _
      rw [if_neg e, d1.dir, if_neg e]
  have hdir : ∀ k, (S2.ino k).dir = (S.ino k).dir := fun k => by
    rw [d2.dir]
    by_cases e : k = D
    · subst e
      rw [if_pos rfl, hh]
      show lset s I (if k = k then ldel s (S.ino k).dir else _) = _
      rw [if_pos rfl, lset_ldel (hs k) hg]
    · rw [if_neg e, hh]
      show (if k = D then _ else (S.ino k).dir) = _
      rw [if_neg e]
  refine BS.ext' (fun k => ?_) (d2.used.trans d1.used)
  have hpar : (S2.ino k).parent = (S.ino k).parent := by
    rw [d2.parent, d1.kind, d1.parent]
    by_cases e : k = I ∧ (S.ino I).kind = 2
    · rw [if_pos e, e.1, hp e.2]
    · rw [if_neg e, if_neg e]
  have c1 := (d2.kind k).trans (d1.kind k)
  have c2 := (d2.links k).trans (d1.links k)
  have c3 := (d2.holds k).trans (d1.holds k)
  have c4 := (d2.body k).trans (d1.body k)
  have c5 := (d2.target k).trans (d1.target k)
  have c6 := (d2.marks k).trans (d1.marks k)
  have c7 := hdir k
  generalize S2.ino k = x at *
  generalize S.ino k = y at *
  obtain ⟨x1, x2, x3, x4, x5, x6, x7, x8⟩ := x
  obtain ⟨y1, y2, y3, y4, y5, y6, y7, y8⟩ := y
  dsimp only at *
  subst c1 c2 c3 c4 c5 c6 c7 hpar
  rfl
end Go.Proofs.YtnnaoldpacbagaaGreat.br
end
