/- A tree: how many names a directory may have behind so many calls; what calls on other descriptors leave. -/
import Derived.Test.YtpmpbmjjlccbbaaGreatZ33
namespace Go.Proofs.YtpmpbmjjlccbbaaGreat.tr
open Go.Proofs.YtpmpbmjjlccbbaaGreat.br (BS Inv Ino fresh)
open Go.Proofs.YtpmpbmjjlccbbaaGreat.wk (walkT pe pn pd e0 r0 dot1 dot2)
open Go.Proofs.YtpmpbmjjlccbbaaGreat.cb (trS readI)
open Go.Proofs.YtpmpbmjjlccbbaaGreat.dn (lset ldel lget)
open Go.Proofs.YtpmpbmjjlccbbaaGreat.ds (De Tb dz em low lowV openT getV errV setT closeT spot full allT put)
set_option linter.unusedVariables false

theorem lset_len (s : ByteArray) (v : Int) (L : List dn.En) : (lset s v L).length ≤ L.length + 1 := by
  induction L with
  | nil => simp [lset]
  | cons y l ih => unfold lset; split <;> (try split) <;> simp <;> omega
theorem ldel_len (s : ByteArray) (L : List dn.En) : (ldel s L).length ≤ L.length := List.length_filter_le _ _
/-- No directory has more names. -/
def Few (S : BS) (n : Nat) : Prop := ∀ k, (S.ino k).dir.length ≤ n
theorem few_upd {S : BS} {n i u : Nat} {x : Ino} (h : Few S n) (hx : x.dir.length ≤ n) : Few ⟨br.upd S.ino i x, u⟩ n := fun k => by
  show (br.upd S.ino i x k).dir.length ≤ n
  unfold br.upd
  split
  · exact hx
  · exact h k
theorem few_put {S : BS} {n : Nat} {i : Int} {x : Ino} (h : Few S n) (hx : x.dir.length ≤ n) : Few (S.put i x) n := few_upd h hx
theorem Few.at {S : BS} {n : Nat} (h : Few S n) (i : Int) : (S.at i).dir.length ≤ n := h i.toNat
theorem Few.up {S : BS} {n m : Nat} (h : Few S n) (hm : n ≤ m) : Few S m := fun k => Nat.le_trans (h k) hm
theorem few_less {S : BS} {n : Nat} (h : Few S n) (i dl dh : Int) : Few (S.less i dl dh) n := by
  unfold BS.less
  dsimp only
  split
  · exact few_upd h (Nat.zero_le _)
  · exact few_put h (h.at i)
theorem few_ldel {S : BS} {n : Nat} (h : Few S n) (d : Int) (s : ByteArray) : Few (S.putDir d (ldel s (S.at d).dir)) n := few_put h (Nat.le_trans (ldel_len s _) (h.at d))
theorem few_lset {S : BS} {n : Nat} (h : Few S n) (d : Int) (s : ByteArray) (v : Int) : Few (S.putDir d (lset s v (S.at d).dir)) (n + 1) :=
  few_put (h.up (Nat.le_succ _)) (Nat.le_trans (lset_len s v _) (Nat.succ_le_succ (h.at d)))
theorem few_drop {S : BS} {n : Nat} (h : Few S n) (d : Int) (s : ByteArray) (i : Int) : Few (S.drop d s i) n := few_less (few_ldel h d s) _ _ _
theorem few_move {S : BS} {n : Nat} (h : Few S n) (d : Int) (s : ByteArray) (t : Int) (u : ByteArray) (i : Int) : Few (S.move d s t u i) (n + 1) := by
  unfold BS.move
  dsimp only
  have h2 := few_lset (few_ldel h d s) t u i
  split
  · exact few_put h2 (h2.at i)
  · exact h2
theorem few_make {S : BS} {n : Nat} (h : Few S n) (d : Int) (s : ByteArray) (k : Int) (t : ByteArray) : Few (S.make d s k t).2 (n + 1) := by
  unfold BS.make
  split
  · exact h.up (Nat.le_succ _)
  split
  · exact h.up (Nat.le_succ _)
  dsimp only
  split
  · exact h.up (Nat.le_succ _)
  · exact few_lset (few_put h (Nat.zero_le _)) _ _ _
theorem few_link {S : BS} {n : Nat} (h : Few S n) (d : Int) (s : ByteArray) (i : Int) : Few (S.link d s i).2 (n + 1) := by
  unfold BS.link
  repeat' split
  all_goals first
    | exact h.up (Nat.le_succ _)
    | exact few_lset (few_put (x := { S.at i with links := (S.at i).links + 1 }) h (h.at i)) d s i
theorem few_unlink {S : BS} {n : Nat} (h : Few S n) (d : Int) (s : ByteArray) : Few (S.unlink d s).2 n := by
  unfold BS.unlink
  repeat' split
  all_goals first
    | exact h
    | exact few_drop h _ _ _
theorem few_rmdir {S : BS} {n : Nat} (h : Few S n) (d : Int) (s : ByteArray) : Few (S.rmdir d s).2 n := by
  unfold BS.rmdir
  repeat' split
  all_goals first
    | exact h
    | exact few_drop h _ _ _
theorem few_rename {S : BS} {n : Nat} (h : Few S n) (d : Int) (s : ByteArray) (t : Int) (u : ByteArray) : Few (S.rename d s t u).2 (n + 1) := by
  unfold BS.rename
  dsimp only
  repeat' split
  all_goals first
    | exact h.up (Nat.le_succ _)
    | exact few_move h _ _ _ _ _
    | exact few_move (few_drop h _ _ _) _ _ _ _ _
theorem few_cut {S : BS} {n : Nat} (h : Few S n) (i off : Int) : Few (S.cutI i off).2 n := by
  unfold BS.cutI
  split
  · exact h
  · exact few_upd h (h.at i)
theorem few_hold {S : BS} {n : Nat} (h : Few S n) (i : Int) : Few (S.hold i).2 n := by
  unfold BS.hold
  split
  · exact h
  · exact few_put h (h.at i)
theorem few_release {S : BS} {n : Nat} (h : Few S n) (i : Int) : Few (S.release i).2 n := by
  unfold BS.release
  repeat' split
  all_goals first
    | exact h
    | exact few_less h _ _ _
theorem few_fresh : Few fresh 0 := fun k => by
  show (br.upd (fun _ => Ino.nil) 1 _ k).dir.length ≤ 0
  unfold br.upd
  split <;> exact Nat.le_refl _
theorem ite_few {n : Nat} {c : Prop} [Decidable c] {a b : Res × Sy} (h1 : Few a.2.S n) (h2 : Few b.2.S n) : Few (if c then a else b).2.S n := by
  split
  · exact h1
  · exact h2
theorem openIno_few {y : Sy} {n : Nat} (h : Few y.S n) (i f : Int) : Few (openIno y i f).2.S n := by
  unfold openIno
  refine ite_few h (ite_few h ?_)
  show Few (BS.hold _ _).2 n
  refine few_hold ?_ _
  show Few (if bit f 4 = true then (y.S.cutI i 0).2 else y.S) n
  split
  · exact few_cut h _ _
  · exact h
theorem does_few {room n : Nat} {y y' : Sy} {c : Cal} {r : Res} (h : Few y.S n) (hd : Does room y c r y') : Few y'.S (n + 1) := by
  have fin : ∀ {x : Res × Sy}, (r, y') = x → Few x.2.S (n + 1) → Few y'.S (n + 1) := fun e b => by subst e; exact b
  have h1 := h.up (Nat.le_succ n)
  have HW : ∀ p, DoWrite room y c p r y' → Few y'.S (n + 1) := fun p hw => by
    unfold DoWrite at hw
    dsimp only at hw
    refine ite_elim hw (fun _ k => by rw [k.2]; exact h1) fun hd k => ?_
    obtain ⟨q, e, S', k0, k1, k2⟩ := k
    by_cases e0 : e = 0
    · rw [(k2 e0).2]
      show Few S' (n + 1)
      rcases k0 with ⟨_, _, _, rfl⟩ | ⟨_, _, _, _, rfl⟩
      · exact h1
      · exact few_upd h1 (h1.at _)
    · rw [(k1 e0).2]; exact h1
  unfold Does at hd
  refine ite_elim hd (fun _ k => fin k (by
    unfold doOpen
    refine ite_few h1 (ite_few h1 ?_)
    dsimp only
    exact ite_few (ite_few h1 (ite_few h1 (openIno_few (y := ⟨_, y.T⟩) (few_make h _ _ _ _) _ _))) (ite_few h1 (ite_few h1 (openIno_few h1 _ _))))) fun _ hd => ?_
  refine ite_elim hd (fun _ k => fin k (by unfold doClose; exact ite_few h1 (few_release h1 _))) fun _ hd => ?_
  refine ite_elim hd (fun _ k => fin k (by unfold doRead; dsimp only; exact ite_few h1 (ite_few h1 (ite_few h1 h1)))) fun _ hd => ?_
  refine ite_elim hd (fun _ k => fin k (by unfold doRead; dsimp only; exact ite_few h1 (ite_few h1 (ite_few h1 h1)))) fun _ hd => ?_
  refine ite_elim hd (fun _ k => HW _ k) fun _ hd => ?_
  refine ite_elim hd (fun _ k => HW _ k) fun _ hd => ?_
  refine ite_elim hd (fun _ k => fin k (by unfold doSeek; dsimp only; exact ite_few h1 (ite_few h1 h1))) fun _ hd => ?_
  refine ite_elim hd (fun _ k => fin k (by unfold doCut; dsimp only; exact ite_few h1 (few_cut h1 _ _))) fun _ hd => ?_
  refine ite_elim hd (fun _ k => by rw [k.2]; exact h1) fun _ hd => ?_
  refine ite_elim hd (fun _ k => by rw [k.2]; exact h1) fun _ hd => ?_
  refine ite_elim hd (fun _ k => fin k (by unfold doMkdir; dsimp only; exact ite_few h1 (few_make h _ _ _ _))) fun _ hd => ?_
  refine ite_elim hd (fun _ k => fin k (by unfold doRmdir; dsimp only; exact ite_few h1 (few_rmdir h1 _ _))) fun _ hd => ?_
  refine ite_elim hd (fun _ k => fin k (by unfold doUnlink; dsimp only; exact ite_few h1 (ite_few h1 (few_unlink h1 _ _)))) fun _ hd => ?_
  refine ite_elim hd (fun _ k => fin k (by unfold doLink; dsimp only; exact ite_few h1 (ite_few h1 (ite_few h1 (ite_few h1 (few_link h _ _ _)))))) fun _ hd => ?_
  refine ite_elim hd (fun _ k => fin k (by unfold doSymlink; dsimp only; exact ite_few h1 (ite_few h1 (ite_few h1 (ite_few h1 (ite_few h1 (few_make h _ _ _ _))))))) fun _ hd => ?_
  refine ite_elim hd (fun _ k => by rw [k.2]; exact h1) fun _ hd => ?_
  refine ite_elim hd (fun _ k => fin k (by unfold doRename; dsimp only; exact ite_few h1 (ite_few h1 (ite_few h1 (ite_few h1 (few_rename h _ _ _ _)))))) fun _ hd => ?_
  refine ite_elim hd (fun _ k => fin k (by unfold doOpendir; dsimp only; exact ite_few h1 (ite_few h1 (ite_few h1 (few_hold h1 _))))) fun _ hd => ?_
  refine ite_elim hd (fun _ k => fin k (by
    unfold doReaddir; dsimp only
    refine ite_few h1 ?_
    split <;> exact h1)) fun _ hd => ?_
  refine ite_elim hd (fun _ k => fin k (by unfold doRewind; dsimp only; exact ite_few h1 h1)) fun _ hd => ?_
  rw [hd.2]; exact h1
theorem names_few {S : BS} {n : Nat} (h : Few S n) (i : Int) : (namesOf S i).length ≤ n := by
  unfold namesOf
  rw [List.length_map]
  unfold BS.all
  split
  · exact Nat.zero_le _
  · exact h.at i
/-- A call on another descriptor leaves this one. -/
theorem getV_open {T : Tb} {fd : Int} {d d' : De} (hg : getV T fd = (d, 0)) : getV (openT T d') fd = (d, 0) := by
  obtain ⟨k, rfl, hk, hT, hs⟩ := spot_of hg
  unfold openT
  cases hl : low T with
  | none => exact hg
  | some j =>
    obtain ⟨_, hj, _⟩ := ds.low_some hl
    have hne : k ≠ j := fun e => by subst e; rw [hT] at hj; cases hj
    show getV (put T j (some d')) (k : Int) = (d, 0)
    unfold getV spot
    rw [if_pos ⟨by omega, by omega⟩, Int.toNat_natCast, ds.put_other T (some d') hne, hT]
theorem getV_put {T : Tb} {fd fd' : Int} {d : De} {o : Option De} (hg : getV T fd = (d, 0)) (h0 : 0 ≤ fd') (hne : fd' ≠ fd) : getV (put T fd'.toNat o) fd = (d, 0) := by
  obtain ⟨k, rfl, hk, hT, hs⟩ := spot_of hg
  unfold getV spot
  rw [if_pos ⟨by omega, by omega⟩, Int.toNat_natCast, ds.put_other T o (by omega), hT]
theorem getV_close {T : Tb} {fd fd' : Int} {d : De} (hg : getV T fd = (d, 0)) (hne : fd' ≠ fd) : getV (closeT T fd') fd = (d, 0) := by
  unfold closeT
  cases hs : spot T fd' with
  | none => exact hg
  | some x => obtain ⟨k, rfl, _, _⟩ := ds.spot_some hs; exact getV_put hg (by omega) hne
theorem getV_other {T : Tb} {fd fd' : Int} {d d' : De} (hg : getV T fd = (d, 0)) (hne : fd' ≠ fd) : getV (setT T fd' d') fd = (d, 0) := by
  unfold setT
  cases hs : spot T fd' with
  | none => exact hg
  | some x => obtain ⟨k, rfl, _, _⟩ := ds.spot_some hs; exact getV_put hg (by omega) hne
theorem ite_get {fd : Int} {d : De} {c : Prop} [Decidable c] {a b : Res × Sy} (h1 : getV a.2.T fd = (d, 0)) (h2 : getV b.2.T fd = (d, 0)) : getV (if c then a else b).2.T fd = (d, 0) := by
  split
  · exact h1
  · exact h2
theorem openIno_get {S : BS} {T : Tb} {fd : Int} {d : De} (h : getV T fd = (d, 0)) (i f : Int) : getV (openIno ⟨S, T⟩ i f).2.T fd = (d, 0) := by
  unfold openIno
  exact ite_get h (ite_get h (getV_open h))
theorem does_other {room : Nat} {y y' : Sy} {c : Cal} {r : Res} {fd : Int} {d : De} (h : getV y.T fd = (d, 0)) (hne : c.fd ≠ fd) (hd : Does room y c r y') : getV y'.T fd = (d, 0) := by
  have fin : ∀ {x : Res × Sy}, (r, y') = x → getV x.2.T fd = (d, 0) → getV y'.T fd = (d, 0) := fun e b => by subst e; exact b
  have HR : ∀ p, getV (doRead y c p).2.T fd = (d, 0) := fun p => by
    unfold doRead; dsimp only
    refine ite_get h (ite_get h (ite_get h ?_))
    dsimp only
    split
    · exact h
    · exact getV_other h hne
  have HW : ∀ p, DoWrite room y c p r y' → getV y'.T fd = (d, 0) := fun p hw => by
    unfold DoWrite at hw
    dsimp only at hw
    refine ite_elim hw (fun _ k => by rw [k.2]; exact h) fun hd k => ?_
    obtain ⟨q, e, S', k0, k1, k2⟩ := k
    by_cases e0 : e = 0
    · rw [(k2 e0).2]
      dsimp only
      split
      · exact h
      · exact getV_other h hne
    · rw [(k1 e0).2]; exact h
  unfold Does at hd
  refine ite_elim hd (fun _ k => fin k (by
    unfold doOpen
    refine ite_get h (ite_get h ?_)
    dsimp only
    exact ite_get (ite_get h (ite_get h (openIno_get h _ _))) (ite_get h (ite_get h (openIno_get h _ _))))) fun _ hd => ?_
  refine ite_elim hd (fun _ k => fin k (by unfold doClose; exact ite_get h (getV_close h hne))) fun _ hd => ?_
  refine ite_elim hd (fun _ k => fin k (HR _)) fun _ hd => ?_
  refine ite_elim hd (fun _ k => fin k (HR _)) fun _ hd => ?_
  refine ite_elim hd (fun _ k => HW _ k) fun _ hd => ?_
  refine ite_elim hd (fun _ k => HW _ k) fun _ hd => ?_
  refine ite_elim hd (fun _ k => fin k (by unfold doSeek; dsimp only; exact ite_get h (ite_get h (getV_other h hne)))) fun _ hd => ?_
  refine ite_elim hd (fun _ k => fin k (by unfold doCut; dsimp only; exact ite_get h h)) fun _ hd => ?_
  refine ite_elim hd (fun _ k => by rw [k.2]; exact h) fun _ hd => ?_
  refine ite_elim hd (fun _ k => by rw [k.2]; exact h) fun _ hd => ?_
  refine ite_elim hd (fun _ k => fin k (by unfold doMkdir; dsimp only; exact ite_get h h)) fun _ hd => ?_
  refine ite_elim hd (fun _ k => fin k (by unfold doRmdir; dsimp only; exact ite_get h h)) fun _ hd => ?_
  refine ite_elim hd (fun _ k => fin k (by unfold doUnlink; dsimp only; exact ite_get h (ite_get h h))) fun _ hd => ?_
  refine ite_elim hd (fun _ k => fin k (by unfold doLink; dsimp only; exact ite_get h (ite_get h (ite_get h (ite_get h h))))) fun _ hd => ?_
  refine ite_elim hd (fun _ k => fin k (by unfold doSymlink; dsimp only; exact ite_get h (ite_get h (ite_get h (ite_get h (ite_get h h)))))) fun _ hd => ?_
  refine ite_elim hd (fun _ k => by rw [k.2]; exact h) fun _ hd => ?_
  refine ite_elim hd (fun _ k => fin k (by unfold doRename; dsimp only; exact ite_get h (ite_get h (ite_get h (ite_get h h))))) fun _ hd => ?_
  refine ite_elim hd (fun _ k => fin k (by unfold doOpendir; dsimp only; exact ite_get h (ite_get h (ite_get h (getV_open h))))) fun _ hd => ?_
  refine ite_elim hd (fun _ k => fin k (by
    unfold doReaddir; dsimp only
    refine ite_get h ?_
    split
    · exact h
    · exact getV_other h hne)) fun _ hd => ?_
  refine ite_elim hd (fun _ k => fin k (by unfold doRewind; dsimp only; exact ite_get h (getV_other h hne))) fun _ hd => ?_
  rw [hd.2]; exact h
end Go.Proofs.YtpmpbmjjlccbbaaGreat.tr
