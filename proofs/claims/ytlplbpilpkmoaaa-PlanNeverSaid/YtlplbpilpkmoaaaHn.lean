/- How a method of the interface value is reached. -/
import Derived.Test.YtlplbpilpkmoaaaHl
namespace Go.Proofs.Ytlplbpilpkmoaaa.hp
open Go.RowKit
set_option linter.unusedVariables false
theorem m_push (Q : Nat) (w : World) : Sem.run Try.prog (method 215 60 (.pointer (some ⟨Q, 0, none⟩)) "Push") w = .ok (67, .pointer (some ⟨Q, 0, none⟩)) w := by kernel_rfl
theorem m_pop (Q : Nat) (w : World) : Sem.run Try.prog (method 215 60 (.pointer (some ⟨Q, 0, none⟩)) "Pop") w = .ok (66, .pointer (some ⟨Q, 0, none⟩)) w := by kernel_rfl
theorem load46 (Q : Nat) (w : World) (v : Value) (h : w.cell? ⟨Q, 0, none⟩ = some v) : Sem.run Try.prog (loadVar 58 ⟨Q, 0, none⟩) w = .ok v w := by
  go_simp
theorem ssa_run (P : Program) (ts : Array TypeId) (t : TypeId) (a : Addr) (s m : String) (w : World) : Sem.run P (Builtin.ssaWrapNilChk_ ts t #[.pointer (some a), strVal s, strVal m]) w = .ok (.pointer (some a)) w := rfl
theorem m_value (name : String) (f Q : Nat) (hx : ((Try.prog.info? 60).bind fun i => (i.methods.find? (·.name == name)).map fun m => (m.path, m.func)) = some (#[], some (f, false))) (w : World) (v : Value) (h : w.cell? ⟨Q, 0, none⟩ = some v) :
    Sem.run Try.prog (method 215 60 (.pointer (some ⟨Q, 0, none⟩)) name) w = .ok (f, v) w := by
  obtain ⟨i, hi, hx⟩ := Option.bind_eq_some_iff.1 hx
  obtain ⟨m, hm, hx⟩ := Option.map_eq_some_iff.1 hx
  injection hx with hp hf
  have ht : Sem.run Try.prog (typeInfo 60) w = .ok i w := by simp [typeInfo, hi]
  have hl := load46 Q w v h
  have hu : Sem.run Try.prog (underlying 60) w = .ok (.pointer 58) w := by kernel_rfl
  unfold method
  simp only [Sem.run_bind, ht, Result.andThen_ok, hm, hp, hf, follow, receiverAt, Place.get, Sem.run_pure, hu]
  simp [ssa_run, asAddr, hl]
theorem m_len (Q : Nat) (w : World) (v : Value) (h : w.cell? ⟨Q, 0, none⟩ = some v) : Sem.run Try.prog (method 215 60 (.pointer (some ⟨Q, 0, none⟩)) "Len") w = .ok (63, v) w := m_value "Len" 63 Q (by kernel_rfl) w v h
theorem m_less (Q : Nat) (w : World) (v : Value) (h : w.cell? ⟨Q, 0, none⟩ = some v) : Sem.run Try.prog (method 215 60 (.pointer (some ⟨Q, 0, none⟩)) "Less") w = .ok (64, v) w := m_value "Less" 64 Q (by kernel_rfl) w v h
theorem m_swap (Q : Nat) (w : World) (v : Value) (h : w.cell? ⟨Q, 0, none⟩ = some v) : Sem.run Try.prog (method 215 60 (.pointer (some ⟨Q, 0, none⟩)) "Swap") w = .ok (65, v) w := m_value "Swap" 65 Q (by kernel_rfl) w v h
end Go.Proofs.Ytlplbpilpkmoaaa.hp
