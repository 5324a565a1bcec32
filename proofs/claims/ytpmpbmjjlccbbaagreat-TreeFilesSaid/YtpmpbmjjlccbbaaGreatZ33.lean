/- Part 33 of what is known of the program's functions and of the document's words: contracts, and the mathematics beneath them. -/
import Derived.Test.YtpmpbmjjlccbbaaGreatProg
import Derived.Test.YtpmpbmjjlccbbaaGreatZ32
set_option linter.unusedVariables false
set_option linter.unusedSimpArgs false
set_option maxRecDepth 100000
set_option maxHeartbeats 8000000
namespace Go.Proofs.YtpmpbmjjlccbbaaGreat.tr
open br (BS Inv Ino)
open wk (walkT pe pn pd e0 r0 dot1 dot2)
open cb (trS readI)
open ds (De Tb dz low lowV openT getV errV setT closeT spot full allT put)
def There (S : BS) (i : Int) : Prop := ∃ I : Nat, i = (I : Int) ∧ 1 ≤ I ∧ I ≤ 200 ∧ (S.ino I).kind ≠ 0
theorem there_of {S : BS} {i : Int} (h : S.kindOf i ≠ 0) : There S i := by
 unfold BS.kindOf at h
 split at h
 ·rename_i h1; exact br.isI_yes h1
 ·exact absurd rfl h
theorem There.kind {S : BS} {i : Int} (h : There S i) : ∃ I : Nat, i = (I : Int) ∧ 1 ≤ I ∧ I ≤ 200 ∧ S.kindOf i = (S.ino I).kind ∧ (S.ino I).kind ≠ 0 := by
 obtain ⟨I, rfl, h1, h2, h3⟩ := h
 exact ⟨I, rfl, h1, h2, cb.kind_of h1 h2, h3⟩
theorem lead_has {S : BS} {room : Nat} (hG : br.Good S room) (t : ByteArray) (fol : Bool) : wk.Fnd (trS S) fol (pd t) (lead S t fol) := by
 unfold lead
 split
 ·exact .inr (.inr (.inr ⟨by assumption, rfl⟩))
 ·have hL := cb.live_of hG
  exact wk.walk_has (trS S) hL fol 40 1 (pn t) (pd t) hL.root.1 (fun _ => hL.root.2) (wk.pn_ne t)
theorem get_there {S : BS} {room : Nat} (hG : br.Good S room) {a x : Int} {n : ByteArray} (h : S.get a n = (x, 0)) : There S x := by
 obtain ⟨D, rfl, _, _, _, hg⟩ := br.get_ok (S := S) (d := a) (s := n) (by rw [h])
 rw [h] at hg
 obtain ⟨_, _, I, hv, i1, i2, _, il, _⟩ := hG.1.lead hg
 exact ⟨I, hv, i1, i2, hG.1.linked (by omega)⟩
theorem lead_there {S : BS} {room : Nat} (hG : br.Good S room) {t : ByteArray} {fol : Bool} (h : (lead S t fol).2 = 0) : There S (lead S t fol).1.2.2 := by
 rcases lead_has hG t fol with ⟨_, _, _, h1⟩ | ⟨_, _, h1, _⟩ | ⟨h1, _⟩ | ⟨h1, _⟩
 ·exact there_of (by have h2 : S.kindOf (lead S t fol).1.2.2 = 2 := h1; rw [h2]; decide)
 ·exact get_there hG h1
 ·rw [h] at h1; exact absurd h1 (by decide)
 ·exact absurd h h1
theorem sum_one (j : Int) : ∀ n : Nat, 1 ≤ j → j ≤ n → br.sumF (fun I => if j = (I : Int) then 1 else 0) n = 1
 | 0, h1, h2 => by omega
 | n + 1, h1, h2 => by
  show br.sumF _ n + (if j = ((n + 1 : Nat) : Int) then 1 else 0) = 1
  by_cases e : j = ((n + 1 : Nat) : Int)
  ·rw [if_pos e, br.sumF_zero (fun k k1 k2 => if_neg (by omega))]
  ·rw [if_neg e, sum_one j n h1 (by omega)]
theorem sum_add (f g : Nat → Nat) : ∀ n, br.sumF (fun k => f k + g k) n = br.sumF f n + br.sumF g n
 | 0 => rfl
 | n + 1 => by
  show br.sumF (fun k => f k + g k) n + (f (n + 1) + g (n + 1)) = (br.sumF f n + f (n + 1)) + (br.sumF g n + g (n + 1))
  rw [sum_add f g n]; omega
theorem names_sum : ∀ L : List dn.En, (∀ e ∈ L, 1 ≤ e.2 ∧ e.2 ≤ 200) → L.length = br.sumF (fun I => br.names (I : Int) L) 200
 | [], _ => (br.sumF_zero fun k _ _ => rfl).symm
 | x :: l, h => by
  have h1 := names_sum l fun e he => h e (List.mem_cons_of_mem _ he)
  have h2 := h x List.mem_cons_self
  have e : br.sumF (fun I => br.names (I : Int) (x :: l)) 200 = br.sumF (fun I => (if x.2 = (I : Int) then 1 else 0) + br.names (I : Int) l) 200 := br.sumF_congr fun k _ _ => br.names_cons _ _ _
  rw [e, sum_add, sum_one x.2 200 h2.1 h2.2, ← h1, List.length_cons]; omega
theorem dir_len {S : BS} {room : Nat} (h : Inv S room) (k : Nat) : (S.ino k).dir.length ≤ 4000 := by
 by_cases hk : k = 0 ∨ 200 < k
 ·rw [h.out k hk]; exact Nat.zero_le _
 ·rw [names_sum _ fun e he => (h.good k e he).2.2]
  refine Nat.le_trans (br.sumF_mono (g := fun _ => 20) fun I h1 h2 => ?_) (by decide +kernel)
  have h3 : br.names (I : Int) (S.ino k).dir ≤ S.names I 200 := br.sumF_le (f := fun k => br.names (I : Int) (S.ino k).dir) (by omega) (by omega)
  have h4 := h.links I h1 h2
  have h5 := h.twenty I
  split at h4 <;> omega
theorem names_le {S : BS} {room : Nat} (h : Inv S room) (i : Int) : (namesOf S i).length ≤ 4000 := by
 unfold namesOf
 rw [List.length_map]
 unfold BS.all
 split
 ·exact Nat.zero_le _
 ·exact dir_len h _
section
variable {room : Nat} {y : Sy}
theorem Hd.get (h : Hd room y) {fd : Int} {d : De} (hg : getV y.T fd = (d, 0)) : Fit y.S d := by
 cases hs : spot y.T fd with
 | none => unfold getV at hg; rw [hs] at hg; injection hg with _ e; exact absurd e (by decide)
 | some x =>
  have hx : x = d := by unfold getV at hg; rw [hs] at hg; injection hg
  subst hx
  obtain ⟨k, rfl, hk, hT⟩ := ds.spot_some hs
  exact h.fit k x hk hT
theorem file_ok {T : Tb} {fd : Int} {k : Option Nat} (h : (fileD T fd k).2 = 0) : getV T fd = ((fileD T fd k).1, 0) ∧ (fileD T fd k).1.isd = false := by
 unfold fileD at h ⊢
 split at h
 ·exact absurd h (show ¬ (9 : Int) = 0 by decide)
 ·rename_i h1
  rw [if_neg h1]
  have a : (getV T fd).2 = 0 := Classical.byContradiction fun e => h1 (.inl e)
  have b : ¬ (getV T fd).1.isd = true := fun e => h1 (.inr (.inl e))
  exact ⟨Prod.ext rfl a, by simpa using b⟩
theorem openIno_held (h : Hd room y) {i f : Int} (hi : There y.S i) (hl : full y.T = false) : Hd room (openIno y i f).2 := by
 unfold openIno
 split
 ·exact h
 split
 ·exact h
 rename_i h2 h3
 obtain ⟨I, rfl, i1, i2, i3, i4⟩ := hi.kind
 rw [i3] at h2 h3
 have hk := h.good.1.kinds I
 have hn := h.nw I
 have hk1 : (y.S.ino I).kind = 1 := by omega
 by_cases hc : bit f 4 = true
 ·rw [if_pos hc]
  have hy := h.branch (cb.Good_cutI h.good (I : Int) 0) (hk_cut y.S (I : Int) 0)
  refine Hd.opened (y := ⟨(y.S.cutI (I : Int) 0).2, y.T⟩) hy hl ⟨I, rfl, i1, i2, ?_, Int.le_refl 0, Int.le_refl 0, Nat.zero_le _⟩
  show ((y.S.cutI (I : Int) 0).2.ino I).kind = 1
  unfold BS.cutI
  split
  ·exact hk1
  ·show (br.upd y.S.ino I { y.S.at (I : Int) with body := _ } I).kind = 1
   rw [br.upd_same]
   show (y.S.at (I : Int)).kind = 1
   rw [br.at_nat]; exact hk1
 ·rw [if_neg hc]
  exact Hd.opened (y := ⟨y.S, y.T⟩) h hl ⟨I, rfl, i1, i2, hk1, Int.le_refl 0, Int.le_refl 0, Nat.zero_le _⟩
theorem ite_held {c : Prop} [Decidable c] {a b : Res × Sy} (h1 : c → Hd room a.2) (h2 : ¬ c → Hd room b.2) : Hd room (if c then a else b).2 := by
 split
 ·exact h1 ‹_›
 ·exact h2 ‹_›
theorem doOpen_held (h : Hd room y) (c : Cal) : Hd room (doOpen y c).2 := by
 unfold doOpen
 refine ite_held (fun _ => h) fun _ => ite_held (fun _ => h) fun hl => ?_
 have hl2 : full y.T = false := by simpa using hl
 dsimp only
 refine ite_held (fun _ => ite_held (fun _ => h) fun _ => ite_held (fun _ => h) fun hm => ?_) fun _ => ite_held (fun _ => h) fun he => ite_held (fun _ => h) fun _ => openIno_held h (lead_there h.good (Classical.not_not.1 he)) hl2
 refine openIno_held (h.branch (br.Good.make h.good _ _ _ _) (hk_make h.good _ _ _ _ (by decide))) (there_of ?_) hl2
 have := make_kind h.good (Classical.not_not.1 hm)
 show (y.S.make _ _ 1 e0).2.kindOf _ ≠ 0
 rw [this]; decide
theorem doClose_held (h : Hd room y) (c : Cal) : Hd room (doClose y c).2 := by
 unfold doClose
 exact ite_held (fun _ => h) fun hg => h.close (Prod.ext rfl (Classical.not_not.1 hg))
theorem doRead_held (h : Hd room y) (c : Cal) (p : Bool) : Hd room (doRead y c p).2 := by
 unfold doRead
 dsimp only
 refine ite_held (fun _ => h) fun hd => ite_held (fun _ => h) fun hn => ite_held (fun _ => h) fun _ => ?_
 obtain ⟨hg, _⟩ := file_ok (Classical.not_not.1 hd)
 obtain ⟨I, _, _, _, _, f1, f2, f3⟩ := h.get hg
 dsimp only
 split
 ·exact h
 ·rename_i hp
  rw [if_neg hp] at hn
  exact h.set hg rfl rfl (by dsimp only; omega) f2 f3
theorem wrote_good {S S' : BS} (hG : br.Good S room) {i off : Int} {len p : Nat} {f : Nat → UInt8} {err : Int} (h : cb.WrI S room i off len f p err S') (he : err = 0) : br.Good S' room ∧ HK S S' := by
 rcases h with ⟨h1, _, h2, _⟩ | ⟨h1, _, h3, h4, rfl⟩
 ·exact absurd (h2.symm.trans he) h1
 ·obtain ⟨I, rfl, i1, i2, hk⟩ := br.fileE_ok h1
  rw [br.at_nat] at h3 h4
  have := br.Good.turn hG hk h4 h3
  refine ⟨?_, hk_wrote _ _ _ _ _⟩
  unfold BS.wrote
  rw [br.at_nat]
  exact this
theorem doWrite_held {y' : Sy} {r : Res} (h : Hd room y) {c : Cal} {p : Bool} (hw : DoWrite room y c p r y') : Hd room y' := by
 unfold DoWrite at hw
 dsimp only at hw
 refine ite_elim hw (fun _ k => by rw [k.2]; exact h) fun hd k => ?_
 obtain ⟨q, e, S', k0, k1, k2⟩ := k
 obtain ⟨hg, _⟩ := file_ok (Classical.not_not.1 hd)
 obtain ⟨I, _, _, _, _, f1, f2, f3⟩ := h.get hg
 by_cases e0 : e = 0
 ·rw [(k2 e0).2]
  obtain ⟨g1, g2⟩ := wrote_good h.good k0 e0
  have hy := h.branch g1 g2
  by_cases hp : p = true
  ·rw [if_pos hp]; exact hy
  ·rw [if_neg hp]
   refine Hd.set (y := ⟨S', y.T⟩) hy hg rfl rfl ?_ f2 f3
   show (0 : Int) ≤ writeAt y c p _ + (q : Int)
   unfold writeAt
   rw [if_neg hp]
   split <;> omega
 ·rw [(k1 e0).2]; exact h
theorem doSeek_held (h : Hd room y) (c : Cal) : Hd room (doSeek y c).2 := by
 unfold doSeek
 dsimp only
 refine ite_held (fun _ => h) fun hd => ite_held (fun _ => h) fun hn => ?_
 obtain ⟨hg, _⟩ := file_ok (Classical.not_not.1 hd)
 obtain ⟨I, _, _, _, _, f1, f2, f3⟩ := h.get hg
 exact h.set hg rfl rfl (by dsimp only; omega) f2 f3
theorem does_held {y' : Sy} {c : Cal} {r : Res} (h : Hd room y) (hd : Does room y c r y') : Hd room y' := by
 have fin : ∀ {x : Res × Sy}, (r, y') = x → Hd room x.2 → Hd room y' := fun e b => by subst e; exact b
 have G := h.good
 unfold Does at hd
 refine ite_elim hd (fun _ k => fin k (doOpen_held h c)) fun _ hd => ?_
 refine ite_elim hd (fun _ k => fin k (doClose_held h c)) fun _ hd => ?_
 refine ite_elim hd (fun _ k => fin k (doRead_held h c _)) fun _ hd => ?_
 refine ite_elim hd (fun _ k => fin k (doRead_held h c _)) fun _ hd => ?_
 refine ite_elim hd (fun _ k => doWrite_held h k) fun _ hd => ?_
 refine ite_elim hd (fun _ k => doWrite_held h k) fun _ hd => ?_
 refine ite_elim hd (fun _ k => fin k (doSeek_held h c)) fun _ hd => ?_
 refine ite_elim hd (fun _ k => fin k (by unfold doCut; dsimp only; exact ite_held (fun _ => h) fun _ => h.branch (cb.Good_cutI G _ _) (hk_cut _ _ _))) fun _ hd => ?_
 refine ite_elim hd (fun _ k => by rw [k.2]; exact h) fun _ hd => ?_
 refine ite_elim hd (fun _ k => by rw [k.2]; exact h) fun _ hd => ?_
 refine ite_elim hd (fun _ k => fin k (by unfold doMkdir; dsimp only; exact ite_held (fun _ => h) fun _ => h.branch (br.Good.make G _ _ _ _) (hk_make G _ _ _ _ (by decide)))) fun _ hd => ?_
 refine ite_elim hd (fun _ k => fin k (by unfold doRmdir; dsimp only; exact ite_held (fun _ => h) fun _ => h.branch (br.Good.rmdir G _ _) (hk_rmdir _ _ _))) fun _ hd => ?_
 refine ite_elim hd (fun _ k => fin k (by unfold doUnlink; dsimp only; exact ite_held (fun _ => h) fun _ => ite_held (fun _ => h) fun _ => h.branch (br.Good.unlink G _ _) (hk_unlink _ _ _))) fun _ hd => ?_
 refine ite_elim hd (fun _ k => fin k (by unfold doLink; dsimp only; exact ite_held (fun _ => h) fun _ => ite_held (fun _ => h) fun _ => ite_held (fun _ => h) fun _ => ite_held (fun _ => h) fun _ => h.branch (br.Good.link G _ _ _) (hk_link _ _ _ _))) fun _ hd => ?_
 refine ite_elim hd (fun _ k => fin k (by unfold doSymlink; dsimp only; exact ite_held (fun _ => h) fun _ => ite_held (fun _ => h) fun _ => ite_held (fun _ => h) fun _ => ite_held (fun _ => h) fun _ => ite_held (fun _ => h) fun _ => h.branch (br.Good.make G _ _ _ _) (hk_make G _ _ _ _ (by decide)))) fun _ hd => ?_
 refine ite_elim hd (fun _ k => by rw [k.2]; exact h) fun _ hd => ?_
 refine ite_elim hd (fun _ k => fin k (by unfold doRename; dsimp only; exact ite_held (fun _ => h) fun _ => ite_held (fun _ => h) fun _ => ite_held (fun _ => h) fun _ => ite_held (fun _ => h) fun _ => h.branch (br.Good.rename G _ _ _ _) (hk_rename _ _ _ _ _))) fun _ hd => ?_
 refine ite_elim hd (fun _ k => fin k (by
  unfold doOpendir; dsimp only
  refine ite_held (fun _ => h) fun hl => ite_held (fun _ => h) fun he => ite_held (fun _ => h) fun hk => ?_
  obtain ⟨I, hI, i1, i2, i3, i4⟩ := (lead_there G (Classical.not_not.1 he)).kind
  exact h.opened (by simpa using hl) ⟨I, hI, i1, i2, by rw [← i3]; exact Classical.not_not.1 hk, Int.le_refl 0, Int.le_refl 0, names_le G.1 _⟩)) fun _ hd => ?_
 refine ite_elim hd (fun _ k => fin k (by
  unfold doReaddir; dsimp only
  refine ite_held (fun _ => h) fun hg => ?_
  have hg2 : getV y.T c.fd = ((getV y.T c.fd).1, 0) := Prod.ext rfl (Classical.byContradiction fun e => hg (.inl e))
  obtain ⟨I, _, _, _, _, f1, f2, f3⟩ := h.get hg2
  split
  ·exact h
  ·exact h.set hg2 rfl rfl f1 (by dsimp only; omega) f3)) fun _ hd => ?_
 refine ite_elim hd (fun _ k => fin k (by
  unfold doRewind; dsimp only
  refine ite_held (fun _ => h) fun hg => ?_
  have hg2 : getV y.T c.fd = ((getV y.T c.fd).1, 0) := Prod.ext rfl (Classical.byContradiction fun e => hg (.inl e))
  obtain ⟨I, _, _, _, _, f1, f2, f3⟩ := h.get hg2
  exact h.set hg2 rfl rfl f1 (Int.le_refl 0) (names_le G.1 _))) fun _ hd => ?_
 rw [hd.2]; exact h
end
def Lm (d : De) : Prop := d.off ≤ 1099511627776 ∧ d.pos ≤ (d.ns.length : Int) ∧ (d.isd = false → d.ns = [])
def Lim (T : Tb) : Prop := ∀ k d, k < 32 → T k = some d → Lm d
theorem spot_of {T : Tb} {fd : Int} {d : De} (hg : getV T fd = (d, 0)) : ∃ k : Nat, fd = (k : Int) ∧ k < 32 ∧ T k = some d ∧ spot T fd = some d := by
 cases hs : spot T fd with
 | none => unfold getV at hg; rw [hs] at hg; injection hg with _ e; exact absurd e (by decide)
 | some x =>
  have hx : x = d := by unfold getV at hg; rw [hs] at hg; injection hg
  subst hx
  obtain ⟨k, rfl, hk, hT⟩ := ds.spot_some hs
  exact ⟨k, rfl, hk, hT, rfl⟩
theorem Lim.get {T : Tb} (h : Lim T) {fd : Int} {d : De} (hg : getV T fd = (d, 0)) : Lm d := by
 obtain ⟨k, _, hk, hT, _⟩ := spot_of hg
 exact h k d hk hT
theorem Lim.put {T : Tb} (h : Lim T) {k : Nat} {d : De} (hd : Lm d) : Lim (put T k (some d)) := fun j q hj hq => by
 by_cases e : j = k
 ·subst e
  have h2 : some d = some q := (ds.put_same T j (some d)).symm.trans hq
  injection h2 with h2; subst h2; exact hd
 ·exact h j q hj ((ds.put_other T (some d) e).symm.trans hq)
theorem Lim.open_ {T : Tb} (h : Lim T) {d : De} (hd : Lm d) : Lim (openT T d) := by
 unfold openT
 cases low T with
 | none => exact h
 | some k => exact h.put hd
theorem Lim.close {T : Tb} (h : Lim T) (fd : Int) : Lim (closeT T fd) := by
 unfold closeT
 cases spot T fd with
 | none => exact h
 | some x =>
  intro j q hj hq
  by_cases e : j = fd.toNat
  ·subst e
   exact absurd ((ds.put_same T fd.toNat none).symm.trans hq) (by simp)
  ·exact h j q hj ((ds.put_other T none e).symm.trans hq)
theorem Lim.set {T : Tb} (h : Lim T) (fd : Int) {d : De} (hd : Lm d) : Lim (setT T fd d) := by
 unfold setT
 cases spot T fd with
 | none => exact h
 | some x => exact h.put hd
theorem lim_em : Lim ds.em := fun k d _ h => by cases h
theorem setT_same {T : Tb} {fd : Int} {d : De} (hg : getV T fd = (d, 0)) : setT T fd d = T := by
 obtain ⟨k, rfl, hk, hT, hs⟩ := spot_of hg
 unfold setT
 rw [hs]
 funext j
 by_cases e : j = k
 ·subst e
  exact (ds.put_same T j (some d)).trans hT.symm
 ·exact ds.put_other T (some d) (by rw [Int.toNat_natCast]; exact e)
theorem closeT_err {T : Tb} {fd : Int} (h : (getV T fd).2 ≠ 0) : closeT T fd = T := by
 unfold closeT
 cases hs : spot T fd with
 | none => rfl
 | some x => exact absurd (show (getV T fd).2 = 0 by unfold getV; rw [hs]) h
section
variable {room : Nat} {y : Sy}
theorem release_ok (h : Hd room y) {fd : Int} {d : De} (hg : getV y.T fd = (d, 0)) : (y.S.release d.ino).1 = 0 := by
 obtain ⟨k, rfl, hk, hT, _⟩ := spot_of hg
 obtain ⟨I, a1, a2, a3, a4, a5⟩ := h.held hk hT
 have hne : (y.S.ino I).kind ≠ 0 := by rw [a5]; split <;> decide
 have hI : y.S.isI (I : Int) = true := by unfold BS.isI; rw [br.at_nat]; exact decide_eq_true ⟨by omega, by omega, hne⟩
 unfold BS.release
 rw [a1, if_neg (by rw [hI]; decide), if_neg (by rw [br.at_nat]; exact a4)]
theorem There.isI {S : BS} {i : Int} (h : There S i) : S.isI i = true := by
 obtain ⟨I, rfl, i1, i2, hne⟩ := h
 unfold BS.isI; rw [br.at_nat]; exact decide_eq_true ⟨by omega, by omega, hne⟩
theorem hold_ok {S : BS} {i : Int} (h : There S i) : (S.hold i).1 = 0 := by
 unfold BS.hold; rw [if_neg (by rw [h.isI]; decide)]
theorem all_there {S : BS} {i : Int} (h : There S i) : (S.all i).2 = if S.kindOf i = 2 then 0 else 20 := by
 have hd : S.dirE i false = if (S.at i).kind = 2 then 0 else 20 := by
  unfold BS.dirE
  rw [h.isI, if_neg (by decide : ¬ (true = false))]
  by_cases e : (S.at i).kind = 2
  ·rw [if_neg (fun k => k e), if_neg (fun k => by cases k.1), if_pos e]
  ·rw [if_pos e, if_neg e]
 have hk : S.kindOf i = (S.at i).kind := by unfold BS.kindOf; rw [h.isI, if_pos rfl]
 unfold BS.all
 rw [hd, hk]
 by_cases e : (S.at i).kind = 2
 ·rw [if_pos e, if_neg (fun k => k rfl)]
 ·rw [if_neg e, if_pos (by decide)]
theorem Fit.there {S : BS} {d : De} (h : Fit S d) : There S d.ino := by
 obtain ⟨I, e, h1, h2, h3, _⟩ := h
 exact ⟨I, e, h1, h2, by rw [h3]; split <;> decide⟩
theorem Fit.kindOf {S : BS} {d : De} (h : Fit S d) : S.kindOf d.ino = if d.isd = true then 2 else 1 := by
 have ht := h.there.isI
 obtain ⟨I, e, h1, h2, h3, _⟩ := h
 unfold BS.kindOf
 rw [ht, if_pos rfl, e, br.at_nat]; exact h3
theorem cut0_ok {S : BS} {i : Int} (h : S.kindOf i = 1) : (S.cutI i 0).1 = 0 := by
 unfold BS.cutI BS.fileE
 rw [h]
 rfl
theorem size_lim {S : BS} (hG : br.Good S room) {i : Int} (h : S.kindOf i = 1) : (S.stat i).1.2.1 ≤ 65536 := by
 have hI : S.isI i = true := by
  unfold BS.kindOf at h
  cases hh : S.isI i
  ·rw [hh, if_neg (by decide)] at h; exact absurd h (by decide)
  ·rfl
 have hk : (S.at i).kind = 1 := by unfold BS.kindOf at h; rw [hI, if_pos rfl] at h; exact h
 unfold BS.stat
 rw [if_pos hI]
 show (S.at i).sizeOf ≤ 65536
 unfold Ino.sizeOf
 rw [if_pos hk]
 exact (hG.1.body i.toNat).size
theorem read_none {S : BS} {i off n : Int} (h : (readI S i off n).1 ≠ 0) : (readI S i off n).2 = 0 := by
 unfold readI at h ⊢
 split
 ·rfl
 ·rename_i h1
  rw [if_neg h1] at h
  unfold bl.readR at h ⊢
  split
  ·rfl
  ·rename_i h2; rw [if_neg h2] at h; exact absurd rfl h
theorem read_lim {S : BS} (hG : br.Good S room) (i off n : Int) (h0 : 0 ≤ off) (hm : off ≤ 1099511627776) : off + ((readI S i off n).2 : Int) ≤ 1099511627776 := by
 unfold readI
 split
 ·show off + ((0 : Nat) : Int) ≤ _; omega
 ·unfold bl.readR
  split
  ·show off + ((0 : Nat) : Int) ≤ _; omega
  ·have := (hG.1.body i.toNat).size
   show off + ((min n.toNat ((S.ino i.toNat).body.size - off.toNat) : Nat) : Int) ≤ _
   omega
theorem wri_lim {S S' : BS} {i off : Int} {len p : Nat} {f : Nat → UInt8} {err : Int} (h : cb.WrI S room i off len f p err S') (hm : off ≤ 1099511627776) : off + (p : Int) ≤ 1099511627776 ∧ p ≤ len := by
 rcases h with ⟨_, h2, _⟩ | ⟨_, h2, _⟩
 ·omega
 ·unfold bl.WR at h2
  rcases h2 with ⟨_, h3, _⟩ | ⟨_, _, h3, _⟩ | ⟨_, _, h3, _⟩ | ⟨h4, h5, h6, h7, _⟩
  ·omega
  ·omega
  ·omega
  ·have := h7.le; omega
theorem ite_lim {c : Prop} [Decidable c] {a b : Res × Sy} (h1 : c → Lim a.2.T) (h2 : ¬ c → Lim b.2.T) : Lim (if c then a else b).2.T := by
 split
 ·exact h1 ‹_›
 ·exact h2 ‹_›
theorem lm_new (i f : Int) : Lm ⟨i, f, 0, false, [], 0⟩ := ⟨by show (0 : Int) ≤ _; omega, by show (0 : Int) ≤ _; exact Int.le_refl 0, fun _ => rfl⟩
theorem openIno_lim (h : Lim y.T) (i f : Int) : Lim (openIno y i f).2.T := by
 unfold openIno
 exact ite_lim (fun _ => h) fun _ => ite_lim (fun _ => h) fun _ => h.open_ (lm_new _ _)
theorem writeAt_lim (h : Hd room y) (hl : Lim y.T) {c : Cal} {d : De} (hg : getV y.T c.fd = (d, 0)) (hd : d.isd = false) : 0 ≤ writeAt y c false d ∧ writeAt y c false d ≤ 1099511627776 := by
 have hf := h.get hg
 have hk := hf.kindOf
 rw [hd, if_neg (by decide)] at hk
 have hs := size_lim h.good hk
 obtain ⟨I, _, _, _, _, f1, f2, f3⟩ := hf
 have hm := (hl.get hg).1
 unfold writeAt
 rw [if_neg (by decide)]
 split <;> omega
theorem does_lim {y' : Sy} {c : Cal} {r : Res} (h : Hd room y) (hl : Lim y.T) (hd : Does room y c r y') : Lim y'.T := by
 have fin : ∀ {x : Res × Sy}, (r, y') = x → Lim x.2.T → Lim y'.T := fun e b => by subst e; exact b
 have HR : ∀ p, Lim (doRead y c p).2.T := fun p => by
  unfold doRead
  dsimp only
  refine ite_lim (fun _ => hl) fun hd => ite_lim (fun _ => hl) fun hn => ite_lim (fun _ => hl) fun _ => ?_
  obtain ⟨hg, _⟩ := file_ok (Classical.not_not.1 hd)
  have lg := hl.get hg
  dsimp only
  split
  ·exact hl
  ·rename_i hp
   rw [if_neg hp] at hn
   refine hl.set _ ⟨?_, lg.2⟩
   exact read_lim h.good _ _ _ (by omega) lg.1
 have HW : ∀ p, DoWrite room y c p r y' → Lim y'.T := fun p hw => by
  unfold DoWrite at hw
  dsimp only at hw
  refine ite_elim hw (fun _ k => by rw [k.2]; exact hl) fun hd k => ?_
  obtain ⟨q, e, S', k0, k1, k2⟩ := k
  obtain ⟨hg, hi⟩ := file_ok (Classical.not_not.1 hd)
  by_cases e0 : e = 0
  ·rw [(k2 e0).2]
   by_cases hp : p = true
   ·rw [if_pos hp]; exact hl
   ·rw [if_neg hp]
    have hp2 : p = false := by simpa using hp
    subst hp2
    exact hl.set _ ⟨(wri_lim k0 (writeAt_lim h hl hg hi).2).1, (hl.get hg).2⟩
  ·rw [(k1 e0).2]; exact hl
 unfold Does at hd
 refine ite_elim hd (fun _ k => fin k (by
  unfold doOpen
  refine ite_lim (fun _ => hl) fun _ => ite_lim (fun _ => hl) fun _ => ?_
  dsimp only
  exact ite_lim (fun _ => ite_lim (fun _ => hl) fun _ => ite_lim (fun _ => hl) fun _ => openIno_lim (y := ⟨(y.S.make (lead y.S c.a !(bit c.flag 2 && bit c.flag 3)).1.1 (lead y.S c.a !(bit c.flag 2 && bit c.flag 3)).1.2.1 1 e0).2, y.T⟩) hl _ _) fun _ => ite_lim (fun _ => hl) fun _ => ite_lim (fun _ => hl) fun _ => openIno_lim hl _ _)) fun _ hd => ?_
 refine ite_elim hd (fun _ k => fin k (by unfold doClose; exact ite_lim (fun _ => hl) fun _ => hl.close _)) fun _ hd => ?_
 refine ite_elim hd (fun _ k => fin k (HR _)) fun _ hd => ?_
 refine ite_elim hd (fun _ k => fin k (HR _)) fun _ hd => ?_
 refine ite_elim hd (fun _ k => HW _ k) fun _ hd => ?_
 refine ite_elim hd (fun _ k => HW _ k) fun _ hd => ?_
 refine ite_elim hd (fun _ k => fin k (by
  unfold doSeek
  dsimp only
  refine ite_lim (fun _ => hl) fun hd => ite_lim (fun _ => hl) fun hn => ?_
  obtain ⟨hg, _⟩ := file_ok (Classical.not_not.1 hd)
  exact hl.set _ ⟨by dsimp only; omega, (hl.get hg).2⟩)) fun _ hd => ?_
 refine ite_elim hd (fun _ k => fin k (by unfold doCut; dsimp only; exact ite_lim (fun _ => hl) fun _ => hl)) fun _ hd => ?_
 refine ite_elim hd (fun _ k => by rw [k.2]; exact hl) fun _ hd => ?_
 refine ite_elim hd (fun _ k => by rw [k.2]; exact hl) fun _ hd => ?_
 refine ite_elim hd (fun _ k => fin k (by unfold doMkdir; dsimp only; exact ite_lim (fun _ => hl) fun _ => hl)) fun _ hd => ?_
 refine ite_elim hd (fun _ k => fin k (by unfold doRmdir; dsimp only; exact ite_lim (fun _ => hl) fun _ => hl)) fun _ hd => ?_
 refine ite_elim hd (fun _ k => fin k (by unfold doUnlink; dsimp only; exact ite_lim (fun _ => hl) fun _ => ite_lim (fun _ => hl) fun _ => hl)) fun _ hd => ?_
 refine ite_elim hd (fun _ k => fin k (by unfold doLink; dsimp only; exact ite_lim (fun _ => hl) fun _ => ite_lim (fun _ => hl) fun _ => ite_lim (fun _ => hl) fun _ => ite_lim (fun _ => hl) fun _ => hl)) fun _ hd => ?_
 refine ite_elim hd (fun _ k => fin k (by unfold doSymlink; dsimp only; exact ite_lim (fun _ => hl) fun _ => ite_lim (fun _ => hl) fun _ => ite_lim (fun _ => hl) fun _ => ite_lim (fun _ => hl) fun _ => ite_lim (fun _ => hl) fun _ => hl)) fun _ hd => ?_
 refine ite_elim hd (fun _ k => by rw [k.2]; exact hl) fun _ hd => ?_
 refine ite_elim hd (fun _ k => fin k (by unfold doRename; dsimp only; exact ite_lim (fun _ => hl) fun _ => ite_lim (fun _ => hl) fun _ => ite_lim (fun _ => hl) fun _ => ite_lim (fun _ => hl) fun _ => hl)) fun _ hd => ?_
 refine ite_elim hd (fun _ k => fin k (by
  unfold doOpendir; dsimp only
  exact ite_lim (fun _ => hl) fun _ => ite_lim (fun _ => hl) fun _ => ite_lim (fun _ => hl) fun _ => hl.open_ ⟨by show (0 : Int) ≤ _; omega, by show (0 : Int) ≤ _; omega, fun e => by cases e⟩)) fun _ hd => ?_
 refine ite_elim hd (fun _ k => fin k (by
  unfold doReaddir; dsimp only
  refine ite_lim (fun _ => hl) fun hg => ?_
  have hg2 : (getV y.T c.fd).2 = 0 := Classical.byContradiction fun e => hg (.inl e)
  have lg := hl.get (show getV y.T c.fd = ((getV y.T c.fd).1, 0) from Prod.ext rfl hg2)
  cases hs : (getV y.T c.fd).1.ns[(getV y.T c.fd).1.pos.toNat]? with
  | none => exact hl
  | some s =>
   refine hl.set _ ⟨lg.1, ?_, lg.2.2⟩
   have := (List.getElem?_eq_some_iff.1 hs).1
   dsimp only
   omega)) fun _ hd => ?_
 refine ite_elim hd (fun _ k => fin k (by
  unfold doRewind; dsimp only
  refine ite_lim (fun _ => hl) fun hg => ?_
  have hg2 : (getV y.T c.fd).2 = 0 := Classical.byContradiction fun e => hg (.inl e)
  have lg := hl.get (show getV y.T c.fd = ((getV y.T c.fd).1, 0) from Prod.ext rfl hg2)
  exact hl.set _ ⟨lg.1, by show (0 : Int) ≤ _; omega, fun e => absurd (.inr e) hg⟩)) fun _ hd => ?_
 rw [hd.2]; exact hl
end
end Go.Proofs.YtpmpbmjjlccbbaaGreat.tr
