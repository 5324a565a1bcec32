/- What acts leave alone. -/
import Derived.Test.YtldleojipogcmaaNw
import Derived.Test.YtldleojipogcmaaNo
namespace Go.Proofs.Ytldleojipogcmaa.fl
open Go.RowKit
set_option linter.unusedVariables false
set_option linter.unusedSimpArgs false

theorem join_fl (s : Fs) (k who : Int) {y : Int} (h : k ≠ y) : (s.join k who).2.2.fl y = s.fl y := by
  unfold Fs.join
  split
  · rfl
  · exact upf_ne (fun e => h e.symm)
theorem land_fl (s : Fs) (k who e : Int) {y : Int} (h : k ≠ y) : (s.land k who e).2.2.fl y = s.fl y := by
  unfold Fs.land
  cases hf : s.fl k with
  | none => rfl
  | some p =>
    obtain ⟨l, xs⟩ := p
    dsimp only
    split
    · exact upf_ne (fun e => h e.symm)
    · rfl
theorem act_fl (s : Fs) (x : Ac) {y : Int} (h : x.key ≠ y) : (act s x).fl y = s.fl y := by
  unfold act
  split
  · exact join_fl s _ _ h
  · split
    · exact land_fl s _ _ _ h
    · split
      · rfl
      · rfl
theorem lead_fl {s t : Fs} {k : Int} (h : s.fl k = t.fl k) : s.lead k = t.lead k ∧ s.joined k = t.joined k := by
  unfold Fs.lead Fs.joined; rw [h]; exact ⟨rfl, rfl⟩
end Go.Proofs.Ytldleojipogcmaa.fl
