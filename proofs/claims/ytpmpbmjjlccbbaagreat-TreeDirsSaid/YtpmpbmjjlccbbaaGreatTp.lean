/- A directory's descriptor: what opening it tells, beside what Stat tells of the path. -/
import Derived.Test.YtpmpbmjjlccbbaaGreatTn
namespace Go.Proofs.YtpmpbmjjlccbbaaGreat.tr
open Go.Proofs.YtpmpbmjjlccbbaaGreat.br (BS Inv Ino)
open Go.Proofs.YtpmpbmjjlccbbaaGreat.wk (walkT pe pn pd e0 r0 dot1 dot2)
open Go.Proofs.YtpmpbmjjlccbbaaGreat.cb (trS readI)
open Go.Proofs.YtpmpbmjjlccbbaaGreat.ds (De Tb dz em low lowV openT getV errV setT closeT spot full allT put)
set_option linter.unusedVariables false

/-- A hold turns nothing that a walk sees, nor what Stat tells. -/
theorem hold_at (S : BS) (i j : Int) : ((S.hold i).2.at j).kind = (S.at j).kind ∧ ((S.hold i).2.at j).links = (S.at j).links ∧ ((S.hold i).2.at j).body = (S.at j).body ∧ ((S.hold i).2.at j).dir = (S.at j).dir ∧ ((S.hold i).2.at j).target = (S.at j).target ∧ ((S.hold i).2.at j).parent = (S.at j).parent := by
  unfold BS.hold
  by_cases hi : S.isI i = false
  · rw [if_pos hi]; exact ⟨rfl, rfl, rfl, rfl, rfl, rfl⟩
  · rw [if_neg hi]
    have e : (S.put i { S.at i with holds := (S.at i).holds + 1 }).at j = if j.toNat = i.toNat then { S.at i with holds := (S.at i).holds + 1 } else S.at j := rfl
    dsimp only
    rw [e]
    by_cases h : j.toNat = i.toNat
    · rw [if_pos h]
      have e2 : S.at j = S.at i := by show S.ino j.toNat = S.ino i.toNat; rw [h]
      rw [e2]
      exact ⟨rfl, rfl, rfl, rfl, rfl, rfl⟩
    · rw [if_neg h]; exact ⟨rfl, rfl, rfl, rfl, rfl, rfl⟩
theorem hold_isI (S : BS) (i j : Int) : (S.hold i).2.isI j = S.isI j := by unfold BS.isI; rw [(hold_at S i j).1]
theorem hold_dirE (S : BS) (i j : Int) (c : Bool) : (S.hold i).2.dirE j c = S.dirE j c := by unfold BS.dirE; rw [hold_isI, (hold_at S i j).1, (hold_at S i j).2.1]
theorem hold_kindOf (S : BS) (i j : Int) : (S.hold i).2.kindOf j = S.kindOf j := by unfold BS.kindOf; rw [hold_isI, (hold_at S i j).1]
theorem hold_trS (S : BS) (i : Int) : trS (S.hold i).2 = trS S := by
  have h1 : (S.hold i).2.kindOf = S.kindOf := funext fun j => hold_kindOf S i j
  have h2 : (S.hold i).2.get = S.get := funext fun j => funext fun s => by unfold BS.get; rw [hold_dirE, (hold_at S i j).2.2.2.1]
  have h3 : (S.hold i).2.targetOf = S.targetOf := funext fun j => by unfold BS.targetOf; rw [hold_isI, (hold_at S i j).1, (hold_at S i j).2.2.2.2.1]
  have h4 : (S.hold i).2.parentOf = S.parentOf := funext fun j => by unfold BS.parentOf; rw [hold_isI, (hold_at S i j).2.2.2.2.2]
  unfold trS
  rw [h1, h2, h3, h4]
theorem hold_lead (S : BS) (i : Int) (t : ByteArray) (fol : Bool) : lead (S.hold i).2 t fol = lead S t fol := by unfold lead; rw [hold_trS]
theorem hold_stat (S : BS) (i j : Int) : (S.hold i).2.stat j = S.stat j := by
  obtain ⟨h1, h2, h3, h4, h5, _⟩ := hold_at S i j
  unfold BS.stat Ino.sizeOf
  rw [hold_isI, h1, h2, h3, h4, h5]
theorem getV_new {T : Tb} {d : De} (h : full T = false) : getV (openT T d) (lowV T).1 = (d, 0) := by
  unfold full at h
  unfold openT lowV
  cases hl : low T with
  | none => rw [hl] at h; exact absurd h (by decide)
  | some k =>
    obtain ⟨h1, _, _⟩ := ds.low_some hl
    show getV (put T k (some d)) (k : Int) = (d, 0)
    unfold getV spot
    rw [if_pos ⟨by omega, by omega⟩, Int.toNat_natCast, ds.put_same]
/-- Opening a directory, beside Stat of the same path. -/
theorem od_tells {room : Nat} {y : Sy} (hd : Hd room y) (c c2 : Cal) (hc : c2.a = c.a) :
    ((doOpendir y c).1.e ≠ 0 → (doOpendir y c).2 = y ∧ ((doOpendir y c).1.e = 24 ∨ (doStat y c2 true).e ≠ 0 ∨ (doStat y c2 true).t.1 ≠ 2)) ∧
    ((doOpendir y c).1.e = 0 → ∃ i, (doOpendir y c).1.n = (lowV y.T).1 ∧ getV (doOpendir y c).2.T (lowV y.T).1 = (⟨i, 0, 0, true, namesOf y.S i, 0⟩, 0) ∧
      (doStat (doOpendir y c).2 c2 true).e = 0 ∧ ((doStat (doOpendir y c).2 c2 true).t.2.1 : Nat) = (namesOf y.S i).length) := by
  unfold doOpendir
  dsimp only
  by_cases h1 : full y.T = true
  · rw [if_pos h1]
    exact ⟨fun _ => ⟨rfl, .inl rfl⟩, fun h => absurd h (show ¬ ((24 : Int) = 0) by decide)⟩
  rw [if_neg h1]
  have h1' : full y.T = false := by simpa using h1
  by_cases h2 : (lead y.S c.a true).2 ≠ 0
  · rw [if_pos h2]
    refine ⟨fun _ => ⟨rfl, .inr (.inl ?_)⟩, fun h => absurd h h2⟩
    unfold doStat
    dsimp only
    rw [hc, if_pos h2]
    exact h2
  rw [if_neg h2]
  have h2' : (lead y.S c.a true).2 = 0 := Classical.not_not.1 h2
  have hth := lead_there hd.good h2'
  have hst : ∀ i, There y.S i → y.S.stat i = ((y.S.kindOf i, (y.S.at i).sizeOf, (y.S.at i).links), 0) := fun i h => by
    unfold BS.stat BS.kindOf
    rw [h.isI, if_pos rfl, if_pos rfl]
  by_cases h3 : y.S.kindOf (lead y.S c.a true).1.2.2 ≠ 2
  · rw [if_pos h3]
    refine ⟨fun _ => ⟨rfl, .inr (.inr ?_)⟩, fun h => absurd h (show ¬ ((20 : Int) = 0) by decide)⟩
    unfold doStat
    dsimp only
    rw [hc, if_neg h2, hst _ hth]
    exact h3
  rw [if_neg h3]
  have h3' := Classical.not_not.1 h3
  refine ⟨fun h => absurd rfl h, fun _ => ⟨(lead y.S c.a true).1.2.2, rfl, getV_new h1', ?_, ?_⟩⟩
  · unfold doStat opened
    dsimp only
    rw [hc, hold_lead, if_neg h2]
  · unfold doStat opened
    dsimp only
    rw [hc, hold_lead, if_neg h2, hold_stat, hst _ hth]
    dsimp only
    obtain ⟨I, hI, i1, i2, i3, i4⟩ := hth.kind
    have hk : (y.S.at (lead y.S c.a true).1.2.2).kind = 2 := by
      have := h3'
      unfold BS.kindOf at this
      rw [hth.isI, if_pos rfl] at this
      exact this
    unfold Ino.sizeOf
    rw [hk, if_neg (by decide), if_pos rfl]
    unfold namesOf
    rw [List.length_map]
    unfold BS.all
    have hde : y.S.dirE (lead y.S c.a true).1.2.2 false = 0 := by
      unfold BS.dirE
      rw [hth.isI, if_neg (by decide), hk, if_neg (by decide), if_neg (fun e => by cases e.1)]
    rw [hde, if_neg (fun e => e rfl)]
/-- A directory's names rise. -/
theorem names_rise {S : BS} {room : Nat} (h : Inv S room) (i : Int) {k : Nat} {a b : List UInt8} (ha : (namesOf S i)[k]? = some a) (hb : (namesOf S i)[k + 1]? = some b) : dn.lessB ⟨a.toArray⟩ ⟨b.toArray⟩ = true := by
  have hs : dn.Sorted (S.all i).1 := by
    unfold BS.all
    split
    · exact List.Pairwise.nil
    · exact h.sorted i.toNat
  unfold namesOf at ha hb
  rw [List.getElem?_map] at ha hb
  cases h1 : (S.all i).1[k]? with
  | none => rw [h1] at ha; cases ha
  | some x =>
    cases h2 : (S.all i).1[k + 1]? with
    | none => rw [h2] at hb; cases hb
    | some z =>
      rw [h1] at ha
      rw [h2] at hb
      injection ha with ha
      injection hb with hb
      subst ha hb
      obtain ⟨l1, e1⟩ := List.getElem?_eq_some_iff.1 h1
      obtain ⟨l2, e2⟩ := List.getElem?_eq_some_iff.1 h2
      have := List.pairwise_iff_getElem.1 hs k (k + 1) l1 l2 (Nat.lt_succ_self k)
      rw [e1, e2] at this
      exact this
/-- What readdir tells of a descriptor that stands at a name. -/
theorem readdir_at {y : Sy} {c : Cal} {d : De} (hg : getV y.T c.fd = (d, 0)) (hi : d.isd = true) : doReaddir y c = match d.ns[d.pos.toNat]? with
    | none => (wrong 0, y)
    | some s => (⟨0, 1, ⟨s.toArray⟩, (0, 0, 0)⟩, ⟨y.S, setT y.T c.fd { d with pos := d.pos + 1 }⟩) := by
  unfold doReaddir
  dsimp only
  rw [hg, if_neg (fun e => by rcases e with e | e; exact e rfl; rw [hi] at e; cases e)]
  rfl
end Go.Proofs.YtpmpbmjjlccbbaaGreat.tr
