/- A tree: how much of the store a call may take. -/
import Derived.Test.YtpmpbmjjlccbbaaGreatZ33
namespace Go.Proofs.YtpmpbmjjlccbbaaGreat.tr
open Go.Proofs.YtpmpbmjjlccbbaaGreat.br (BS Inv Ino)
open Go.Proofs.YtpmpbmjjlccbbaaGreat.wk (e0)
open Go.Proofs.YtpmpbmjjlccbbaaGreat.cb (readI WrI)
open Go.Proofs.YtpmpbmjjlccbbaaGreat.ds (De Tb lowV openT getV setT closeT full)
set_option linter.unusedVariables false
set_option linter.unusedSimpArgs false

theorem cnt_succ (N : Nat) (f : Nat → Bool) : bl.cnt (N + 1) f = bl.cnt N f + if f N = true then 1 else 0 := by
  unfold bl.cnt
  rw [List.range_succ, List.filter_append, List.length_append]
  congr 1
  by_cases h : f N = true
  · simp [h]
  · simp [h]
theorem cnt_or (N : Nat) (f g : Nat → Bool) : bl.cnt N (fun k => f k || g k) ≤ bl.cnt N f + bl.cnt N g := by
  induction N with
  | zero => simp [bl.cnt]
  | succ N ih =>
    rw [cnt_succ, cnt_succ, cnt_succ]
    cases hf : f N <;> cases hg : g N <;> simp [hf, hg] <;> omega
theorem cnt_win (N c m : Nat) : bl.cnt N (fun k => decide (c ≤ k ∧ k < c + m)) ≤ min (N - c) m := by
  induction N with
  | zero => simp [bl.cnt]
  | succ N ih =>
    rw [cnt_succ]
    by_cases h : c ≤ N ∧ N < c + m
    · rw [if_pos (by simpa using h)]; omega
    · rw [if_neg (by simpa using h)]; omega
theorem cnt_more (N : Nat) {f g : Nat → Bool} (h : ∀ k, f k = true → g k = true) : bl.cnt N f ≤ bl.cnt N g := by
  induction N with
  | zero => simp [bl.cnt]
  | succ N ih =>
    rw [cnt_succ, cnt_succ]
    cases hf : f N
    · simp; omega
    · simp [h N hf]; omega
/-- A write of p bytes takes p / 16 + 2 chunks at most. -/
theorem thW_cnt (b : bl.AB) (s p : Nat) : bl.cnt 4096 (bl.thW b s (s + p)) ≤ b.n + (p / 16 + 2) := by
  have h1 : bl.cnt 4096 (bl.thW b s (s + p)) ≤ bl.cnt 4096 (fun k => b.th k || decide (s / 16 ≤ k ∧ k < s / 16 + (p / 16 + 2))) := cnt_more 4096 fun k hk => by
    unfold bl.thW at hk
    simp only [Bool.or_eq_true, decide_eq_true_eq] at hk ⊢
    rcases hk with h | h
    · exact .inl h
    · exact .inr (by omega)
  have h2 := cnt_or 4096 b.th (fun k => decide (s / 16 ≤ k ∧ k < s / 16 + (p / 16 + 2)))
  have h3 := cnt_win 4096 (s / 16) (p / 16 + 2)
  show _ ≤ bl.cnt 4096 b.th + _
  omega
theorem wr_n (b : bl.AB) (off : Int) (p : Nat) (f : Nat → UInt8) : (bl.wr b off p f).n ≤ b.n + (p / 16 + 2) := thW_cnt b off.toNat p
theorem cut_n (b : bl.AB) (off : Int) : (bl.cut b off).n ≤ b.n := by
  unfold bl.cut
  split
  · exact cnt_more 4096 fun k hk => by
      unfold bl.cutB at hk
      simp only [Bool.and_eq_true] at hk
      exact hk.1
  · exact Nat.le_refl _
section
variable {S : BS}
theorem put_used (S : BS) (i : Int) (x : Ino) : (S.put i x).used = S.used := rfl
theorem less_used (S : BS) (i a b : Int) : (S.less i a b).used ≤ S.used := by
  unfold BS.less
  dsimp only
  split
  · exact Nat.sub_le _ _
  · exact Nat.le_refl _
theorem drop_used (S : BS) (d : Int) (s : ByteArray) (i : Int) : (S.drop d s i).used ≤ S.used := less_used _ _ _ _
theorem move_used (S : BS) (d : Int) (s : ByteArray) (t : Int) (u : ByteArray) (i : Int) : (S.move d s t u i).used = S.used := by
  unfold BS.move
  dsimp only
  split <;> rfl
theorem make_used (S : BS) (d : Int) (s : ByteArray) (k : Int) (t : ByteArray) : (S.make d s k t).2.used = S.used := by
  unfold BS.make
  dsimp only
  repeat' split
  all_goals rfl
theorem link_used (S : BS) (d : Int) (s : ByteArray) (i : Int) : (S.link d s i).2.used = S.used := by
  unfold BS.link
  dsimp only
  repeat' split
  all_goals rfl
theorem unlink_used (S : BS) (d : Int) (s : ByteArray) : (S.unlink d s).2.used ≤ S.used := by
  unfold BS.unlink
  repeat' split
  all_goals first | exact Nat.le_refl _ | exact drop_used _ _ _ _
theorem rmdir_used (S : BS) (d : Int) (s : ByteArray) : (S.rmdir d s).2.used ≤ S.used := by
  unfold BS.rmdir
  repeat' split
  all_goals first | exact Nat.le_refl _ | exact drop_used _ _ _ _
theorem rename_used (S : BS) (d : Int) (s : ByteArray) (t : Int) (u : ByteArray) : (S.rename d s t u).2.used ≤ S.used := by
  unfold BS.rename
  dsimp only
  repeat' split
  all_goals first | exact Nat.le_refl _ | (dsimp only; rw [move_used]; exact Nat.le_refl _) | (dsimp only; rw [move_used]; exact drop_used _ _ _ _)
theorem cutI_used (S : BS) (i off : Int) : (S.cutI i off).2.used ≤ S.used := by
  unfold BS.cutI
  split
  · exact Nat.le_refl _
  · have := cut_n (S.at i).body off
    show S.used + _ - _ ≤ S.used
    omega
theorem hold_used (S : BS) (i : Int) : (S.hold i).2.used = S.used := by
  unfold BS.hold
  split <;> rfl
theorem release_used (S : BS) (i : Int) : (S.release i).2.used ≤ S.used := by
  unfold BS.release
  repeat' split
  all_goals first | exact Nat.le_refl _ | exact less_used _ _ _ _
theorem wrote_used (S : BS) (i off : Int) (p : Nat) (f : Nat → UInt8) : (S.wrote i off p f).used ≤ S.used + (p / 16 + 2) := by
  have := wr_n (S.at i).body off p f
  show S.used + _ - _ ≤ _
  omega
end
section
variable {room : Nat} {y y' : Sy} {r : Res}
theorem wrI_used {S S' : BS} {i off : Int} {len p : Nat} {f : Nat → UInt8} {err : Int} (h : WrI S room i off len f p err S') : S'.used ≤ S.used + (len / 16 + 2) := by
  rcases h with ⟨_, _, _, rfl⟩ | ⟨_, h2, _, _, rfl⟩
  · omega
  · have h1 := wrote_used S i off p f
    have hp : p ≤ len := by
      rcases h2 with ⟨_, a, _⟩ | ⟨_, _, a, _⟩ | ⟨_, _, a, _⟩ | ⟨_, _, _, a, _⟩
      · omega
      · omega
      · omega
      · have := a.le; omega
    have : p / 16 ≤ len / 16 := Nat.div_le_div_right hp
    omega
theorem opened_used (y : Sy) (d : De) : (opened y d).2.S.used = y.S.used := hold_used _ _
theorem openIno_used (y : Sy) (i flag : Int) : (openIno y i flag).2.S.used ≤ y.S.used := by
  unfold openIno
  repeat' split
  all_goals first | exact Nat.le_refl _ | (rw [opened_used]; dsimp only; first | exact cutI_used _ _ _ | exact Nat.le_refl _)
theorem doOpen_used (y : Sy) (c : Cal) : (doOpen y c).2.S.used ≤ y.S.used := by
  unfold doOpen
  dsimp only
  repeat' split
  all_goals first | exact Nat.le_refl _ | exact openIno_used _ _ _ | (dsimp only; rw [make_used]; exact Nat.le_refl _) | (refine Nat.le_trans (openIno_used _ _ _) ?_; dsimp only; rw [make_used]; exact Nat.le_refl _)
/-- A call takes no more of the store than its text is long. -/
theorem does_used {c : Cal} (h : Does room y c r y') : y'.S.used ≤ y.S.used + (c.a.size / 16 + 2) := by
  have hw : ∀ p, DoWrite room y c p r y' → y'.S.used ≤ y.S.used + (c.a.size / 16 + 2) := fun p h => by
    unfold DoWrite at h
    dsimp only at h
    split at h
    · rw [h.2]; omega
    · obtain ⟨q, e, S', hw, h1, h2⟩ := h
      have := wrI_used hw
      by_cases he : e = 0
      · rw [(h2 he).2]; exact this
      · rw [(h1 he).2]; omega
  have h0 : ∀ {z : Sy}, y' = z → z.S.used ≤ y.S.used → y'.S.used ≤ y.S.used + (c.a.size / 16 + 2) := fun e h => by rw [e]; omega
  unfold Does at h
  have fin : ∀ {x : Res × Sy}, (r, y') = x → x.2.S.used ≤ y.S.used → y'.S.used ≤ y.S.used + (c.a.size / 16 + 2) := fun e k => h0 (congrArg Prod.snd e) k
  refine ite_elim h (fun _ k => fin k (by
    exact doOpen_used y c)) fun _ h => ?_
  refine ite_elim h (fun _ k => fin k (by
    unfold doClose; split
    · exact Nat.le_refl _
    · exact release_used _ _)) fun _ h => ?_
  refine ite_elim h (fun _ k => fin k (by
    unfold doRead; dsimp only; repeat' split
    all_goals exact Nat.le_refl _)) fun _ h => ?_
  refine ite_elim h (fun _ k => fin k (by
    unfold doRead; dsimp only; repeat' split
    all_goals exact Nat.le_refl _)) fun _ h => ?_
  refine ite_elim h (fun _ k => hw _ k) fun _ h => ?_
  refine ite_elim h (fun _ k => hw _ k) fun _ h => ?_
  refine ite_elim h (fun _ k => fin k (by
    unfold doSeek; dsimp only; repeat' split
    all_goals exact Nat.le_refl _)) fun _ h => ?_
  refine ite_elim h (fun _ k => fin k (by
    unfold doCut; dsimp only; split
    · exact Nat.le_refl _
    · exact cutI_used _ _ _)) fun _ h => ?_
  refine ite_elim h (fun _ k => h0 k.2 (Nat.le_refl _)) fun _ h => ?_
  refine ite_elim h (fun _ k => h0 k.2 (Nat.le_refl _)) fun _ h => ?_
  refine ite_elim h (fun _ k => fin k (by
    unfold doMkdir; dsimp only; split
    · exact Nat.le_refl _
    · dsimp only; rw [make_used]; exact Nat.le_refl _)) fun _ h => ?_
  refine ite_elim h (fun _ k => fin k (by
    unfold doRmdir; dsimp only; split
    · exact Nat.le_refl _
    · exact rmdir_used _ _ _)) fun _ h => ?_
  refine ite_elim h (fun _ k => fin k (by
    unfold doUnlink; dsimp only; repeat' split
    all_goals first | exact Nat.le_refl _ | exact unlink_used _ _ _)) fun _ h => ?_
  refine ite_elim h (fun _ k => fin k (by
    unfold doLink; dsimp only; repeat' split
    all_goals first | exact Nat.le_refl _ | (dsimp only; rw [link_used]; exact Nat.le_refl _))) fun _ h => ?_
  refine ite_elim h (fun _ k => fin k (by
    unfold doSymlink; dsimp only; repeat' split
    all_goals first | exact Nat.le_refl _ | (dsimp only; rw [make_used]; exact Nat.le_refl _))) fun _ h => ?_
  refine ite_elim h (fun _ k => h0 k.2 (Nat.le_refl _)) fun _ h => ?_
  refine ite_elim h (fun _ k => fin k (by
    unfold doRename; dsimp only; repeat' split
    all_goals first | exact Nat.le_refl _ | exact rename_used _ _ _ _ _)) fun _ h => ?_
  refine ite_elim h (fun _ k => fin k (by
    unfold doOpendir; dsimp only; repeat' split
    all_goals first | exact Nat.le_refl _ | (rw [opened_used]; exact Nat.le_refl _))) fun _ h => ?_
  refine ite_elim h (fun _ k => fin k (by
    unfold doReaddir; dsimp only; repeat' split
    all_goals exact Nat.le_refl _)) fun _ h => ?_
  refine ite_elim h (fun _ k => fin k (by
    unfold doRewind; dsimp only; repeat' split
    all_goals exact Nat.le_refl _)) fun _ h => ?_
  exact h0 h.2 (Nat.le_refl _)
end
end Go.Proofs.YtpmpbmjjlccbbaaGreat.tr
