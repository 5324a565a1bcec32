/- For any lines of both branches, any room and any names: the awake calls hold; what was copied is in the upper branch, of its kind, with its bytes or target, its size and one name; copied again it is the same inode, and nothing more is used; what bars it is what bars the names, or that there is no room. No condition. -/
import Derived.Test.YtgoddboicjfkcaaGreatRows
import Derived.Test.YtgoddboicjfkcaaGreatZ31
import Derived.Test.YtgoddboicjfkcaaGreatZ21
import Derived.Test.YtgoddboicjfkcaaGreatZ20
import Derived.Deep.RegionWith
import Derived.Deep.LoopGhost
import Derived.StillTailTactics
import Derived.Deep.QuietTactic
import Derived.BigQuiet
import Derived.ProofKit
import Derived.OpenShut
import Derived.ShutString
import Derived.SizedLaws
namespace Go.Proofs.YtgoddboicjfkcaaGreat.copyUp
open Go.ChangeShapes Go.WideShapes Go.ChangeAt Go.RowKit
open Go.ChangeMaps (open_string shut_string)
open Go.Proofs.YtgoddboicjfkcaaGreat.fl
open Go.Proofs.YtgoddboicjfkcaaGreat.cb (RetW RetI BrX)
open Go.Proofs.YtgoddboicjfkcaaGreat.br (BS fresh)
open Go.Proofs.YtgoddboicjfkcaaGreat.bl (Pq)
set_option linter.unusedVariables false
set_option linter.unusedSimpArgs false

theorem own : ownKnob Tryz.prog.godebug = none := by kernel_rfl
theorem laid : laidOutB Tryz.prog = true := by kernel_rfl

theorem walk (A0 : Option Addr) (c0 : Nat) (l0 : List fl.Ln) (A1 : Option Addr) (c1 : Nat) (l1 : List fl.Ln) (room : Int) (A3 : Option Addr) (c3 : Nat) (l3 : List ByteArray) (w : World)
    (e0 : l0.length ≤ c0 ∧ c0 ≤ maxLen) (s0 : fl.LR w w.heap.size A0 l0) (z0 : ∀ x ∈ l0, x.path.size ≤ maxLen ∧ x.data.size ≤ maxLen) (e1 : l1.length ≤ c1 ∧ c1 ≤ maxLen) (s1 : fl.LR w w.heap.size A1 l1) (z1 : ∀ x ∈ l1, x.path.size ≤ maxLen ∧ x.data.size ≤ maxLen)
    (e3 : l3.length ≤ c3 ∧ c3 ≤ maxLen) (s3 : cu.NL w (fun b => b < w.heap.size) A3 l3) :
    Calls Tryz.prog 6 #[.slice A0 l0.length c0, .slice A1 l1.length c1, .int .i64 room, .slice A3 l3.length c3] w (fun e w' => e = .returned (.bool true) ∧ Below w.heap.size w w') := by
  exact cu.copyup_any room s0 s1 (Nat.le_trans e0.1 e0.2) (Nat.le_trans e1.1 e1.2) z0 z1 s3 e3

set_option maxRecDepth 100000 in
theorem lifted (os : Os) (started : os.Started) (H : Type) (enc : TypeId × Value → H) :
    ReturnsInHanded {} Tryz.checked os 6 .any (Rows.copyUpSpec.pre6 enc Tryz.prog Tryz.f6 Rows.copyUpRow.domain false) (Rows.copyUpSpec.post enc Tryz.prog Tryz.f6 false true false false) := by
  refine returnsInHanded_of_change_sized (C := Tryz.checked) own started (by kernel_rfl) Tryz.func6
    (ChangeSpec.witness6 (enc := enc) (C := Tryz.checked) false ⟨#[], #[.slice none 0 0, .slice none 0 0, .int .i64 0, .slice none 0 0], []⟩ 8 (by kernel_rfl) (by kernel_rfl) (by kernel_rfl) (by kernel_rfl)) ?_
  intro W base args ds gs before hval0 hW hcnd hsz _
  have hval : ∀ (j : Nat) t v, Tryz.f6.params[j]? = some t → args[j]? = some v → Value.okWide Tryz.prog W .any base t v := hval0
  have hW' := hW
  obtain ⟨p, q, hA0, hV, rfl, hfz, hnd⟩ := hW
  have hA : DataW.TrodAll enc Tryz.prog W 0 (fun _ => true) true Tryz.f6.params.toList args.toList ds p := hA0
  rw [Tryz.params6] at hA hval
  obtain ⟨v0, vs0, d0, ds0, p0, q0, hargs, rfl, rfl, h0, r0⟩ := trodAll_cons hA
  obtain ⟨v1, vs1, d1, ds1, p1, q1, rfl, rfl, rfl, h1, r1⟩ := trodAll_cons r0
  obtain ⟨v2, vs2, d2, ds2, p2, q2, rfl, rfl, rfl, h2, r2⟩ := trodAll_cons r1
  obtain ⟨v3, vs3, d3, ds3, p3, q3, rfl, rfl, rfl, h3, r3⟩ := trodAll_cons r2
  obtain ⟨rfl, rfl, rfl⟩ := trodAll_nil r3
  obtain rfl : args = #[v0, v1, v2, v3] := by cases args; simp_all
  obtain ⟨rfl, rfl⟩ := trodVars_none hV
  have hlt := fun x hx => hW'.lt x hx
  have t0 := h0
  obtain ⟨A0, c0, l0, rfl, e0, s0, z0⟩ := fl.open_lines (hval 0 70 v0 rfl rfl) h0
  have t1 := h1
  obtain ⟨A1, c1, l1, rfl, e1, s1, z1⟩ := fl.open_lines (hval 1 70 v1 rfl rfl) h1
  obtain ⟨a2, rfl, rfl, rfl, w2⟩ := open_int Tryz.underlying3 (hval 2 3 v2 rfl rfl) h2
  have t3 := h3
  obtain ⟨A3, c3, l3, rfl, e3, s3⟩ := cu.open_names (hval 3 43 v3 rfl rfl) h3
  clear hA0 hval0
  refine (walk A0 c0 l0 A1 c1 l1 a2 A3 c3 l3 W e0 s0 z0 e1 s1 z1 e3 s3).mono fun e W' ⟨he, hg⟩ => ?_
  subst he
  exact ⟨_, rfl, cb.law_post (pv := []) hW' (fun _ _ _ => (trodAll_cons_mk (shut_bool Tryz.underlying4 _) trodAll_mk0)) (fun sp hsp => (trodAll_cons_mk (fl.lines_stay t0 hg (by simp +contextual) hlt hsp laid) (trodAll_cons_mk (fl.lines_stay t1 hg (by simp +contextual) hlt hsp laid) (trodAll_cons_mk (shut_int Tryz.underlying3 w2) (trodAll_cons_mk (cu.names_stay t3 hg (by simp +contextual) hlt hsp laid) trodAll_mk0))))) (fun _ _ => rfl) (by simp)
    hg (ok_one (by kernel_rfl) rfl (okWide_bool_mk Tryz.underlying4 _))⟩

theorem over : Rows.copyUpRow.holds Tryz.pinned (OpenSpec.ofChange Rows.copyUpSpec) :=
  OpenClaim.holds_of_wide 6 Tryz.f6 rfl rfl rfl rfl rfl rfl rfl ⟨rfl, rfl, rfl, rfl, rfl⟩ rfl rfl rfl rfl rfl (by kernel_rfl) Tryz.func6 (by kernel_rfl)
    (of_decide_eq_true (by kernel_rfl)) (by unfold Func.isWrapper; first | (rw [if_pos (by decide +kernel)]; kernel_rfl) | (rw [if_neg (by decide +kernel)]; exact ⟨rfl, rfl⟩))
    (fun os started H enc _ => lifted os started H enc)

/-- The statement. -/
theorem proved : Rows.CopyUpSaid :=
  over
end Go.Proofs.YtgoddboicjfkcaaGreat.copyUp
