/- The branches that the laws look at first: mathematics. -/
import Derived.Test.YtkbdmjcdhkdanaaGreatZ34
import Derived.Test.YtkbdmjcdhkdanaaGreatZ31
import Derived.Test.YtkbdmjcdhkdanaaGreatZ19
section
namespace Go.Proofs.YtkbdmjcdhkdanaaGreat.mg
open Go.RowKit
open Go.Proofs.YtkbdmjcdhkdanaaGreat.dn (En lget lset ldel nerr dotB Sorted lessB)
open Go.Proofs.YtkbdmjcdhkdanaaGreat.br (BS Ino Inv fresh)
open Go.Proofs.YtkbdmjcdhkdanaaGreat.cb (Act7 Run Step StepB WrI sF MadeI)
open Go.Proofs.YtkbdmjcdhkdanaaGreat.bl (Pq WR IsStop)
set_option linter.unusedVariables false
set_option linter.unusedSimpArgs false

abbrev zE : ByteArray := ⟨#[]⟩
abbrev zA : ByteArray := ⟨#[97]⟩
abbrev zB : ByteArray := ⟨#[98]⟩
abbrev zC : ByteArray := ⟨#[99]⟩
abbrev zL : ByteArray := ⟨#[108]⟩
abbrev zT : ByteArray := ⟨#[116]⟩
abbrev zX : ByteArray := ⟨#[120]⟩
abbrev zY : ByteArray := ⟨#[121]⟩
abbrev zH : ByteArray := ⟨#[104, 105]⟩
def aU : BS := (((fresh.make 1 zA 2 zE).2.make 2 zX 1 zE).2.make 1 zB 4 zE).2
def aL4 : BS := ((((fresh.make 1 zA 2 zE).2.make 2 zY 1 zE).2.make 1 zB 1 zE).2.make 1 zC 1 zE).2
def aL5 : BS := aL4.wrote 5 0 2 (sF zH)
def aL : BS := (aL5.make 1 zL 3 zT).2
def awF : Nat → Act7
  | 0 => ⟨false, 0, 1, 0, 2, zA, zE⟩
  | 1 => ⟨false, 0, 2, 0, 1, zX, zE⟩
  | 2 => ⟨false, 0, 1, 0, 4, zB, zE⟩
  | 3 => ⟨true, 0, 1, 0, 2, zA, zE⟩
  | 4 => ⟨true, 0, 2, 0, 1, zY, zE⟩
  | 5 => ⟨true, 0, 1, 0, 1, zB, zE⟩
  | 6 => ⟨true, 0, 1, 0, 1, zC, zE⟩
  | 7 => ⟨true, 4, 5, 0, 0, zE, zH⟩
  | _ => ⟨true, 0, 1, 0, 3, zL, zT⟩
theorem up_make {x : Act7} {U L U' L' : BS} (h : Step x U L U' L') (hl : x.low = false) (hk : x.kind = 0) : U' = (U.make x.d x.a x.n x.b).2 ∧ L' = L := ⟨(h.2 hl).2.1 hk, (h.2 hl).1⟩
theorem low_make {x : Act7} {U L U' L' : BS} (h : Step x U L U' L') (hl : x.low = true) (hk : x.kind = 0) : L' = (L.make x.d x.a x.n x.b).2 ∧ U' = U := ⟨(h.1 hl).2.1 hk, (h.1 hl).1⟩
theorem l4_body : (aL4.at 5).body = br.abE := by kernel_rfl
theorem l4_used : aL4.used = 0 := by kernel_rfl
theorem l4_file : aL4.fileE 5 = 0 := by decide +kernel
theorem wrote_hi {p : Nat} {err : Int} {S' : BS} (h : WrI aL4 500 5 0 zH.size (sF zH) p err S') : S' = aL5 := by
  rcases h with ⟨h, _⟩ | ⟨_, h, _, _, rfl⟩
  · exact absurd l4_file h
  · have : p = 2 := by
      rcases h with ⟨h, _⟩ | ⟨_, h, _⟩ | ⟨h, _⟩ | ⟨_, _, _, hs, _⟩
      · exact absurd h (by decide)
      · exact absurd h (by decide)
      · exact absurd h (by decide)
      · rw [l4_body, l4_used] at hs
        exact hs.eq ⟨by decide, fun q hq => .inr (by
          rcases q with _ | _ | q
          · decide +kernel
          · decide +kernel
          · omega), .inl (by decide)⟩
    rw [this]; rfl
theorem aw_run {U L : BS} (h : Run awF 9 U L) : U = aU ∧ L = aL := by
  obtain ⟨U8, L8, ⟨U7, L7, ⟨U6, L6, ⟨U5, L5, ⟨U4, L4, ⟨U3, L3, ⟨U2, L2, ⟨U1, L1, ⟨U0, L0, ⟨rfl, rfl⟩, s0⟩, s1⟩, s2⟩, s3⟩, s4⟩, s5⟩, s6⟩, s7⟩, s8⟩ := h
  obtain ⟨rfl, rfl⟩ := up_make s0 rfl rfl
  obtain ⟨rfl, rfl⟩ := up_make s1 rfl rfl
  obtain ⟨rfl, rfl⟩ := up_make s2 rfl rfl
  obtain ⟨rfl, rfl⟩ := low_make s3 rfl rfl
  obtain ⟨rfl, rfl⟩ := low_make s4 rfl rfl
  obtain ⟨rfl, rfl⟩ := low_make s5 rfl rfl
  obtain ⟨rfl, rfl⟩ := low_make s6 rfl rfl
  obtain ⟨rfl, hs⟩ := s7.1 rfl
  obtain ⟨p, err, hw⟩ := hs.2.2.2.2.1 rfl
  obtain rfl := wrote_hi hw
  obtain ⟨rfl, rfl⟩ := low_make s8 rfl rfl
  exact ⟨rfl, rfl⟩
/-- The names that are seen, where they can be listed. -/
theorem allV_is {U L : BS} {n : Nd} {r1 r2 : Nat} {l : List ByteArray} (hU : Inv U r1) (hL : Inv L r2) (hl : lstV U L n = 0) (h : AllV U L n l) (l0 : List ByteArray) (r0 : l0.Pairwise fun a b => lessB a b = true) (h1 : ∀ s, s ∈ l0 → (getV U L n s).2 = 0)
    (h2 : ((U.all n.1).1 ++ (L.all (belV U n)).1).all (fun e => l0.any (fun x => decide (x = e.1)) || decide ((getV U L n e.1).2 ≠ 0)) = true) : l = l0 := by
  refine rise_ext h.rise r0 fun s => ⟨fun hs => ?_, fun hs => (h.mem s).2 (h1 s hs)⟩
  have hg := (h.mem s).1 hs
  obtain ⟨p, e, _⟩ := (seen_names hU hL n s hl).1 hg
  unfold pairF at e
  rw [fold2 _ _ _ (all_sorted hL _), fold1 _ _ _ (all_sorted hU _)] at e
  have hm : ∃ v, (s, v) ∈ (U.all n.1).1 ++ (L.all (belV U n)).1 := by
    cases e1 : lget s (L.all (belV U n)).1 with
    | some v => exact ⟨v, List.mem_append.2 (.inr ((dn.lget_some (all_sorted hL _)).1 e1))⟩
    | none =>
      rw [e1] at e
      cases e2 : lget s (U.all n.1).1 with
      | some v => exact ⟨v, List.mem_append.2 (.inl ((dn.lget_some (all_sorted hU _)).1 e2))⟩
      | none => rw [e2] at e; cases e
  obtain ⟨v, hv⟩ := hm
  have h4 := List.all_eq_true.1 h2 (s, v) hv
  simp only [Bool.or_eq_true, decide_eq_true_eq, List.any_eq_true] at h4
  rcases h4 with ⟨x, hx, h3⟩ | h3
  · exact h3 ▸ hx
  · exact absurd hg h3
theorem aw_root : rootV aU aL 1 1 = (1, 1) := by decide +kernel
theorem aw_a : getV aU aL (1, 1) zA = ((2, 2), 0) := by decide +kernel
theorem aw_b : getV aU aL (1, 1) zB = ((0, 0), 2) := by decide +kernel
theorem aw_c : getV aU aL (1, 1) zC = ((0, 5), 0) := by decide +kernel
theorem aw_l : getV aU aL (1, 1) zL = ((0, 6), 0) := by decide +kernel
theorem aw_k : kindV aU aL (2, 2) = 2 := by decide +kernel
theorem aw_lst : lstV aU aL (2, 2) = 0 := by decide +kernel
theorem aw_t : targN aU aL (0, 6) = (zT, 0) := by decide +kernel
theorem aw_kc : kindV aU aL (0, 5) ≠ 0 := by decide +kernel
theorem aw_rd : cb.readI aL 5 0 9 = (0, 2) := by decide +kernel
theorem aw_hi : bl.strF 2 (fun j => (aL.at 5).body.dat ((0 : Int).toNat + j)) = zH := by decide +kernel
theorem aw_all {r1 r2 : Nat} {l : List ByteArray} (hU : Inv aU r1) (hL : Inv aL r2) (h : AllV aU aL (2, 2) l) : l.length = 2 := by
  rw [allV_is hU hL aw_lst h [zX, zY] (by decide +kernel) (by decide +kernel) (by decide +kernel)]; rfl
theorem aw_lst1 : lstV aU aL (1, 1) = 0 := by decide +kernel
theorem aw_names {r1 r2 : Nat} {l : List ByteArray} (hU : Inv aU r1) (hL : Inv aL r2) (h : AllV aU aL (1, 1) l) : l.length = 3 := by
  rw [allV_is hU hL aw_lst1 h [zA, zC, zL] (by decide +kernel) (by decide +kernel) (by decide +kernel)]; rfl
theorem aw_stat : statN aU aL (1, 1) 3 = ((2, 3, 1), 0) := by decide +kernel
end Go.Proofs.YtkbdmjcdhkdanaaGreat.mg
end
