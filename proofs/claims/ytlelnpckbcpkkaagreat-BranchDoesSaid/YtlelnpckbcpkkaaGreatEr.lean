/- A call that answers an error leaves the branch as it was. -/
import Derived.Test.YtlelnpckbcpkkaaGreatZt
namespace Go.Proofs.YtlelnpckbcpkkaaGreat.cb
open Go.RowKit
open Go.Proofs.YtlelnpckbcpkkaaGreat.br
open Go.Proofs.YtlelnpckbcpkkaaGreat.dn (En nerr lget lset ldel dotB)
open Go.Proofs.YtlelnpckbcpkkaaGreat.bl (AB Pq U8 wr cut cutR)
set_option linter.unusedVariables false
set_option linter.unusedSimpArgs false

theorem link_err {S : BS} {d i : Int} {s : ByteArray} (h : (S.link d s i).1 ≠ 0) : (S.link d s i).2 = S := by
  unfold BS.link at h ⊢
  split at h <;> rename_i h1
  · rw [if_pos h1]
  · rw [if_neg h1]
    split at h <;> rename_i h2
    · rw [if_pos h2]
    · rw [if_neg h2]
      split at h <;> rename_i h3
      · rw [if_pos h3]
      · rw [if_neg h3]
        split at h <;> rename_i h4
        · rw [if_pos h4]
        · exact absurd rfl h
theorem unlink_err {S : BS} {d : Int} {s : ByteArray} (h : (S.unlink d s).1 ≠ 0) : (S.unlink d s).2 = S := by
  unfold BS.unlink at h ⊢
  split at h <;> rename_i h1
  · rw [if_pos h1]
  · rw [if_neg h1]
    split at h <;> rename_i h2
    · rw [if_pos h2]
    · rw [if_neg h2]
      split at h <;> rename_i h3
      · rw [if_pos h3]
      · exact absurd rfl h
theorem rmdir_err {S : BS} {d : Int} {s : ByteArray} (h : (S.rmdir d s).1 ≠ 0) : (S.rmdir d s).2 = S := by
  unfold BS.rmdir at h ⊢
  split at h <;> rename_i h1
  · rw [if_pos h1]
  · rw [if_neg h1]
    split at h <;> rename_i h2
    · rw [if_pos h2]
    · rw [if_neg h2]
      split at h <;> rename_i h3
      · rw [if_pos h3]
      · rw [if_neg h3]
        split at h <;> rename_i h4
        · rw [if_pos h4]
        · exact absurd rfl h
theorem rename_err {S : BS} {d t : Int} {s u : ByteArray} (h : (S.rename d s t u).1 ≠ 0) : (S.rename d s t u).2 = S := by
  unfold BS.rename at h ⊢
  split at h <;> rename_i h1
  · rw [if_pos h1]
  · rw [if_neg h1]
    split at h <;> rename_i h2
    · rw [if_pos h2]
    · rw [if_neg h2]
      split at h <;> rename_i h3
      · rw [if_pos h3]
      · rw [if_neg h3]
        split at h <;> rename_i h4
        · rw [if_pos h4]
        · rw [if_neg h4]
          dsimp only at h ⊢
          split at h <;> rename_i h5
          · rw [if_pos h5]
          · rw [if_neg h5]
            cases hg : lget u (S.at t).dir with
            | none => rw [hg] at h; exact absurd rfl h
            | some old =>
              rw [hg] at h
              dsimp only at h ⊢
              split at h <;> rename_i h6
              · rw [if_pos h6]
              · rw [if_neg h6]
                split at h <;> rename_i h7
                · rw [if_pos h7]
                · rw [if_neg h7]
                  split at h <;> rename_i h8
                  · rw [if_pos h8]
                  · rw [if_neg h8]
                    split at h <;> rename_i h9
                    · rw [if_pos h9]
                    · exact absurd rfl h
theorem hold_err {S : BS} {i : Int} (h : (S.hold i).1 ≠ 0) : (S.hold i).2 = S := by
  unfold BS.hold at h ⊢
  split at h <;> rename_i h1
  · rw [if_pos h1]
  · exact absurd rfl h
theorem release_err {S : BS} {i : Int} (h : (S.release i).1 ≠ 0) : (S.release i).2 = S := by
  unfold BS.release at h ⊢
  split at h <;> rename_i h1
  · rw [if_pos h1]
  · rw [if_neg h1]
    split at h <;> rename_i h2
    · rw [if_pos h2]
    · exact absurd rfl h
theorem mark_err {S : BS} {i m : Int} (h : (S.mark i m).1 ≠ 0) : (S.mark i m).2 = S := by
  unfold BS.mark at h ⊢
  split at h <;> rename_i h1
  · rw [if_pos h1]
  · exact absurd rfl h
theorem same_body (S : BS) (i : Int) {b : AB} (hb : b = (S.at i).body) : (⟨br.upd S.ino i.toNat { S.at i with body := b }, S.used + b.n - (S.at i).body.n⟩ : BS) = S := by
  subst hb
  refine BS.ext' (fun k => ?_) (by show S.used + _ - _ = S.used; omega)
  show br.upd S.ino i.toNat _ k = _
  by_cases e : k = i.toNat
  · subst e; rw [upd_same]; rfl
  · rw [upd_other _ _ e]
theorem cut_err {S : BS} {i off : Int} (h : (S.cutI i off).1 ≠ 0) : (S.cutI i off).2 = S := by
  unfold BS.cutI at h ⊢
  split at h <;> rename_i h1
  · rw [if_pos h1]
  · rw [if_neg h1]
    have e : cut (S.at i).body off = (S.at i).body := by
      unfold cut
      rw [if_neg]
      intro e
      apply h
      show cutR off = 0
      unfold cutR
      rw [if_neg (by omega), if_neg (by omega)]
    exact same_body S i e
theorem write_err {S S' : BS} {room : Nat} {i off : Int} {len p : Nat} {f : Nat → UInt8} {err : Int} (hw : WrI S room i off len f p err S') (h : err ≠ 0) : S' = S := by
  rcases hw with ⟨_, _, _, rfl⟩ | ⟨_, h2, _, _, rfl⟩
  · rfl
  · have hp : p = 0 := by
      rcases h2 with ⟨_, e, _⟩ | ⟨_, _, e, _⟩ | ⟨_, _, e, _⟩ | ⟨_, _, _, _, e⟩
      · exact e
      · exact e
      · exact e
      · by_cases e0 : p = 0
        · exact e0
        · rw [if_neg e0] at e; exact absurd e h
    subst hp
    exact same_body S i (bl.wrB_zero _ _ _)
end Go.Proofs.YtlelnpckbcpkkaaGreat.cb
