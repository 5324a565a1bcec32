/- Names in a branch, and texts made of them. A path that came in, opened: its names read as a list, below the heap's first end. The document's answer by definition: 'has', 'Name', 'Parts': what they hand back. -/
import Derived.Test.YtlnlehoekchdeaaGreatZ45
import Derived.ProofKit
import Derived.SliceStrings
import Derived.Lib.SmallJoins
import Derived.OpenShut
import Derived.Test.YtlnlehoekchdeaaGreatZ28
section
namespace Go.Proofs.YtlnlehoekchdeaaGreat.cb
open Go.RowKit
open Go.Proofs.YtlnlehoekchdeaaGreat.br
open Go.Proofs.YtlnlehoekchdeaaGreat.dn (lget lset lget_some nerr dotB)
open Go.Proofs.YtlnlehoekchdeaaGreat.wk (walkT pe pn pd nn r0 e0 dot1 dot2)
open Go.Proofs.YtlnlehoekchdeaaGreat.pa (Bs pnames pdirE perr pdir nms comps comps_mid comps_nil comps_one one_ne lastDots perr_zero pnames_ok pdirE_ok)
set_option linter.unusedVariables false

theorem in_range {S : BS} {x : Int} (h : S.kindOf x ≠ 0) : ∃ k : Nat, x = (k : Int) ∧ 1 ≤ k ∧ k ≤ 200 := by
  unfold BS.kindOf at h
  split at h
  · rename_i hi
    unfold BS.isI at hi
    have := of_decide_eq_true hi
    exact ⟨x.toNat, by omega, by omega, by omega⟩
  · exact absurd rfl h
theorem ba_ext {a b : ByteArray} (h : a.data.toList = b.data.toList) : a = b := by
  cases a; cases b; congr 1; exact Array.toList_inj.1 h
/-- A name that an entry may bear. -/
structure NmOk (n : ByteArray) : Prop where
  ne : n.data.toList ≠ []
  sl : ∀ c ∈ n.data.toList, c ≠ 47
  zr : (0 : UInt8) ∉ n.data.toList
  len : n.data.toList.length ≤ 60
  b1 : n.data.toList ≠ [46]
  b2 : n.data.toList ≠ [46, 46]
theorem nmok {n : ByteArray} (h1 : nerr n.data.toList = 0) (h2 : dotB n = false) : NmOk n := by
  unfold nerr at h1
  split at h1
  · cases h1
  rename_i a1
  split at h1
  · cases h1
  rename_i a2
  split at h1
  · cases h1
  rename_i a3
  unfold dotB at h2
  rw [Lib.toList_data] at h2
  simp only [Bool.or_eq_false_iff, beq_eq_false_iff_ne] at h2
  exact ⟨a1, fun c hc e => a3 (.inr (e ▸ hc)), fun e => a3 (.inl e), by omega, h2.1, h2.2⟩
theorem NmOk.d1 {n : ByteArray} (h : NmOk n) : n ≠ dot1 := fun e => h.b1 (by rw [e]; rfl)
theorem NmOk.d2 {n : ByteArray} (h : NmOk n) : n ≠ dot2 := fun e => h.b2 (by rw [e]; rfl)
theorem got_ok {S : BS} {room : Nat} (hG : br.Good S room) {x : Int} {n : ByteArray} (hk : S.kindOf x = 2) (h : (S.get x n).2 = 0) : NmOk n ∧ (S.kindOf (S.get x n).1 = 2 → S.parentOf (S.get x n).1 = x) := by
  obtain ⟨k, rfl, k1, k2⟩ := in_range (S := S) (x := x) (by rw [hk]; decide)
  have hm := (lget_some (hG.1.sorted k)).1 (get_yes h)
  obtain ⟨g1, g2, g3, g4⟩ := hG.1.good k _ hm
  refine ⟨nmok g1 g2, fun h2 => ?_⟩
  obtain ⟨I, hI, i1, i2⟩ := in_range (S := S) (x := (S.get (k : Int) n).1) (by rw [h2]; decide)
  have hu := hG.1.up k _ hm
  dsimp only at hu
  rw [hI] at h2 hu ⊢
  rw [at_nat] at hu
  rw [kind_of i1 i2] at h2
  rw [parent_of i1 i2 (by rw [h2]; decide)]
  exact hu h2
theorem comps_name {n : ByteArray} (h : NmOk n) : comps n.data.toList = [n.data.toList] := by rw [comps_one _ h.sl, one_ne _ h.ne]
theorem nms_name {n : ByteArray} (h : NmOk n) : nms n.data.toList = [n.data.toList] := by
  unfold nms; rw [comps_name h]; simp [h.b1]
theorem perr_name {n : ByteArray} (h : NmOk n) : perr n.data.toList = 0 := by
  rw [perr_zero]
  refine ⟨h.ne, Nat.le_trans h.len (by decide), h.zr, fun x hx => ?_, by rw [nms_name h]; simp⟩
  rw [comps_name h] at hx
  simp at hx
  rw [hx]; exact h.len
theorem pdir_name {n : ByteArray} (h : NmOk n) : pdir n.data.toList = false := by
  unfold pdir lastDots
  rw [comps_name h]
  have hs : Lib.hasSuffix n.data.toList [47] = false := by
    unfold Lib.hasSuffix
    rw [Bool.eq_false_iff]
    intro e
    rw [List.isSuffixOf_iff_suffix] at e
    obtain ⟨t, ht⟩ := e
    exact h.sl 47 (by rw [← ht]; simp) rfl
  rw [hs]
  simp [h.b1, h.b2]
theorem toL (s t : ByteArray) : (s ++ t).data.toList = s.data.toList ++ t.data.toList := by simp
theorem pn_name {n : ByteArray} (h : NmOk n) : pn n = [n] := by
  unfold pn; rw [pnames_ok (perr_name h), nms_name h]
  simp
theorem pd_name {n : ByteArray} (h : NmOk n) : pd n = false := by unfold pd; rw [pdirE_ok (perr_name h), pdir_name h]
theorem pe_name {n : ByteArray} (h : NmOk n) : pe n = 0 := perr_name h
theorem front (n : ByteArray) : (⟨#[47]⟩ ++ n : ByteArray).data.toList = 47 :: n.data.toList := by rw [toL]; rfl
theorem pe_front {n : ByteArray} (hs : n.data.toList ≠ []) (hl : n.data.toList.length + 1 ≤ 400) : pe (⟨#[47]⟩ ++ n) = pe n := by
  unfold pe; rw [front]; exact wk.perr_front hs hl
theorem pn_front {n : ByteArray} (hs : n.data.toList ≠ []) (hl : n.data.toList.length + 1 ≤ 400) : pn (⟨#[47]⟩ ++ n) = pn n := by
  have := pe_front hs hl
  unfold pe at this
  unfold pn pnames
  rw [this, front, wk.nms_front]
theorem pd_front {n : ByteArray} (hs : n.data.toList ≠ []) (hl : n.data.toList.length + 1 ≤ 400) : pd (⟨#[47]⟩ ++ n) = pd n := by
  have := pe_front hs hl
  unfold pe at this
  unfold pd pdirE
  rw [this, front, wk.pdir_front hs]
theorem atR_name {S : BS} {n : ByteArray} (fol : Bool) (h : NmOk n) : atR S n fol = walkT (trS S) fol 40 1 [n] false := by
  unfold atR; rw [pe_name h, if_neg (nn rfl), pn_name h, pd_name h]
theorem atR_front {S : BS} {n : ByteArray} (fol : Bool) (h : NmOk n) : atR S (⟨#[47]⟩ ++ n) fol = walkT (trS S) fol 40 1 [n] false := by
  have hl : n.data.toList.length + 1 ≤ 400 := by have := h.len; omega
  unfold atR; rw [pe_front h.ne hl, pe_name h, if_neg (nn rfl), pn_front h.ne hl, pn_name h, pd_front h.ne hl, pd_name h]
/-- What is made is there. -/
theorem made {S : BS} {room : Nat} (hG : br.Good S room) {n t : ByteArray} (h : (S.make 1 n 3 t).1.2 = 0) :
    NmOk n ∧ ∃ i : Int, (S.make 1 n 3 t).2.get 1 n = (i, 0) ∧ (S.make 1 n 3 t).2.kindOf i = 3 ∧ (S.make 1 n 3 t).2.targetOf i = (t, 0) ∧ (S.make 1 n 3 t).2.kindOf 1 = 2 ∧
      (∀ m j, m ≠ n → S.get 1 m = (j, 0) → (S.make 1 n 3 t).2.get 1 m = (j, 0) ∧ (S.make 1 n 3 t).2.kindOf j = S.kindOf j ∧ (S.make 1 n 3 t).2.targetOf j = S.targetOf j) := by
  unfold BS.make at h ⊢
  by_cases e1 : S.vacant 1 n = 0
  case neg => rw [if_pos e1] at h; exact absurd h e1
  rw [if_neg (nn e1)] at h ⊢
  cases e2 : badKind 3 t with
  | true => rw [e2, if_pos rfl] at h; cases h
  | false =>
    rw [e2, if_neg (by decide)] at h
    rw [if_neg (by decide)]
    dsimp only at h ⊢
    obtain ⟨f1, f2, f3, _⟩ := free_spec S 200 1
    by_cases e3 : 200 < S.free 1 200
    · rw [if_pos e3] at h; cases h
    rw [if_neg e3]
    obtain ⟨D, hD, d1, d2, hk, hl, hg, hs, hdt⟩ := vacant_ok e1
    obtain rfl : D = 1 := by omega
    have hz := f3 (by omega)
    generalize S.free 1 200 = k at *
    have hne : k ≠ 1 := fun e => by rw [e, hk] at hz; cases hz
    have i2 : ∀ j, ((S.put (k : Int) ⟨3, 1, 0, 0, if (3 : Int) = 2 then 1 else 0, abE, [], t⟩).putDir 1 (lset n (k : Int) ((S.put (k : Int) ⟨3, 1, 0, 0, if (3 : Int) = 2 then 1 else 0, abE, [], t⟩).at 1).dir)).ino j =
        if j = 1 then { S.ino 1 with dir := lset n (k : Int) (S.ino 1).dir } else if j = k then ⟨3, 1, 0, 0, 0, abE, [], t⟩ else S.ino j := by
      intro j
      have ha : (S.put (k : Int) ⟨3, 1, 0, 0, if (3 : Int) = 2 then 1 else 0, abE, [], t⟩).at 1 = S.ino 1 := by
        show (S.put (k : Int) _).at ((1 : Nat) : Int) = _
        rw [at_nat, put_nat, if_neg (fun e => hne e.symm)]
      unfold BS.putDir
      rw [ha]
      show ((S.put (k : Int) _).put ((1 : Nat) : Int) _).ino j = _
      rw [put_nat]
      by_cases h1 : j = 1
      · rw [if_pos h1, if_pos h1]
      · rw [if_neg h1, if_neg h1, put_nat]
        by_cases h2 : j = k
        · rw [if_pos h2, if_pos h2]; rfl
        · rw [if_neg h2, if_neg h2]
    generalize ((S.put (k : Int) ⟨3, 1, 0, 0, if (3 : Int) = 2 then 1 else 0, abE, [], t⟩).putDir 1 (lset n (k : Int) ((S.put (k : Int) ⟨3, 1, 0, 0, if (3 : Int) = 2 then 1 else 0, abE, [], t⟩).at 1).dir)) = S2 at i2 ⊢
    have q1 : S2.ino 1 = { S.ino 1 with dir := lset n (k : Int) (S.ino 1).dir } := by rw [i2, if_pos rfl]
    have qk : S2.ino k = ⟨3, 1, 0, 0, 0, abE, [], t⟩ := by rw [i2, if_neg hne, if_pos rfl]
    have qk1 : (S2.ino 1).kind = 2 := by rw [q1]; exact hk
    have qd : (S2.ino 1).dir = lset n (k : Int) (S.ino 1).dir := by rw [q1]
    have hs1 := hG.1.sorted 1
    have hkk : (S2.ino k).kind = 3 := by rw [qk]
    refine ⟨nmok hs hdt, (k : Int), ?_, ?_, ?_, ?_, fun m j hm hj => ?_⟩
    · exact get_of (D := 1) (by decide) (by decide) qk1 (by rw [qd, lget_some (dn.lset_sorted hs1), dn.lset_mem hs1]; exact .inl rfl)
    · rw [kind_of f1 (by omega), hkk]
    · unfold BS.targetOf
      rw [isI_of f1 (by omega) (by rw [hkk]; decide), at_nat, hkk, qk]
      rfl
    · show S2.kindOf ((1 : Nat) : Int) = 2
      rw [kind_of (by decide) (by decide)]; exact qk1
    · have hgm := get_yes (S := S) (k := 1) (n := m) (by show (S.get 1 m).2 = 0; rw [hj])
      rw [show (S.get ((1 : Nat) : Int) m).1 = j by show (S.get 1 m).1 = j; rw [hj]] at hgm
      have hmem := (lget_some hs1).1 hgm
      obtain ⟨_, _, I, hv, j1, j2, jne, _, jk⟩ := hG.1.lead hgm
      subst hv
      have hIk : I ≠ k := fun e => jk (by rw [e]; exact hz)
      have hIo : S2.ino I = S.ino I := by rw [i2, if_neg jne, if_neg hIk]
      refine ⟨get_of (D := 1) (by decide) (by decide) qk1 (by rw [qd, lget_some (dn.lset_sorted hs1), dn.lset_mem hs1]; exact .inr ⟨hmem, hm⟩), ?_, ?_⟩
      · rw [kind_of j1 j2, kind_of j1 j2, hIo]
      · unfold BS.targetOf BS.isI
        rw [at_nat, at_nat, hIo]
/-- A directory's name and back is no step. -/
theorem up_at {S : BS} {room : Nat} (hG : br.Good S room) (s name : ByteArray) {xi i : Int} (hx : (atR S (s ++ ⟨#[47, 46]⟩) true).2 = 0) (hxi : (atR S (s ++ ⟨#[47, 46]⟩) true).1.2.2 = xi) (hg : S.get xi name = (i, 0)) (hk : S.kindOf i = 2) :
    (atR S (s ++ ⟨#[47]⟩ ++ name ++ ⟨#[47, 46, 46]⟩) true).2 = 36 ∨ atR S (s ++ ⟨#[47]⟩ ++ name ++ ⟨#[47, 46, 46]⟩) true = ((xi, ⟨#[]⟩, xi), 0) := by
  have hL := live_of hG
  have e1 : (s ++ ⟨#[47, 46]⟩ : ByteArray).data.toList = s.data.toList ++ [47, 46] := toL _ _
  have e2 : (s ++ ⟨#[47]⟩ ++ name ++ ⟨#[47, 46, 46]⟩ : ByteArray).data.toList = s.data.toList ++ 47 :: (name.data.toList ++ [47, 46, 46]) := by
    rw [toL, toL, toL]; simp
  by_cases hp : perr (s.data.toList ++ [47, 46]) = 0
  case neg => unfold atR pe at hx; rw [e1, if_pos hp] at hx; exact absurd hx hp
  have ea : atR S (s ++ ⟨#[47, 46]⟩) true = walkT (trS S) true 40 1 ((nms s.data.toList).map fun x => ⟨x.toArray⟩) true := by
    unfold atR pe pn pd
    rw [e1, if_neg (nn hp), pnames_ok hp, pdirE_ok hp, wk.nms_dot, wk.pdir_dot]
  rw [ea] at hx hxi
  have hf := wk.walk_has (trS S) hL true 40 1 ((nms s.data.toList).map fun x => ⟨x.toArray⟩) true hL.root.1 (fun _ => hL.root.2) (fun n hn => by
    rw [List.mem_map] at hn
    obtain ⟨x, hx, rfl⟩ := hn
    unfold nms at hx
    rw [List.mem_filter] at hx
    have h1 := (pa.comps_is _ x hx.1).1
    intro e
    have := congrArg ByteArray.data e
    simp [wk.e0] at this
    exact h1 this)
  have hkx : S.kindOf xi = 2 := by
    rw [← hxi]
    rcases hf with ⟨_, _, _, k⟩ | ⟨_, _, _, k, _⟩ | ⟨k, _⟩ | ⟨k, _⟩
    · exact k
    · exact k rfl
    · rw [hx] at k; cases k
    · exact absurd hx k
  obtain ⟨hn, hpar⟩ := got_ok hG hkx (n := name) (by rw [hg])
  rw [hg] at hpar
  have hpar := hpar hk
  obtain ⟨z1, z2, z3, z4, z5⟩ := perr_zero.1 hp
  by_cases hq : perr (s.data.toList ++ 47 :: (name.data.toList ++ [47, 46, 46])) = 0
  case neg =>
    left
    have hz : (0 : UInt8) ∉ s.data.toList ++ 47 :: (name.data.toList ++ [47, 46, 46]) := by
      have : (0 : UInt8) ∉ s.data.toList := fun e => z3 (List.mem_append_left _ e)
      simp [this, hn.zr]
    unfold atR pe
    rw [e2, if_pos hq]
    show perr _ = 36
    have hne : ¬ s.data.toList ++ 47 :: (name.data.toList ++ [47, 46, 46]) = [] := by simp
    unfold perr at hq ⊢
    rw [if_neg hne] at hq ⊢
    by_cases a1 : 400 < (s.data.toList ++ 47 :: (name.data.toList ++ [47, 46, 46])).length
    · rw [if_pos a1]
    rw [if_neg a1, if_neg hz] at hq ⊢
    by_cases a2 : ∃ x ∈ comps (s.data.toList ++ 47 :: (name.data.toList ++ [47, 46, 46])), 60 < x.length
    · rw [if_pos a2]
    rw [if_neg a2] at hq ⊢
    by_cases a3 : 40 < (nms (s.data.toList ++ 47 :: (name.data.toList ++ [47, 46, 46]))).length
    · rw [if_pos a3]
    rw [if_neg a3] at hq
    exact absurd rfl hq
  have eb : atR S (s ++ ⟨#[47]⟩ ++ name ++ ⟨#[47, 46, 46]⟩) true = walkT (trS S) true 40 1 (((nms s.data.toList).map fun x => ⟨x.toArray⟩) ++ [name, dot2]) true := by
    unfold atR pe pn pd
    rw [e2, if_neg (nn hq), pnames_ok hq, pdirE_ok hq, wk.nms_up _ _ hn.ne hn.sl hn.b1, wk.pdir_up _ _ hn.ne hn.sl]
    simp [List.map_append]
    rfl
  rw [eb]
  rcases wk.walk_on (trS S) 40 1 ((nms s.data.toList).map fun x => ⟨x.toArray⟩) [name, dot2] true (by simp) hx with ⟨k, hk2⟩ | h36
  case inr => exact .inl h36
  right
  rw [hk2, hxi]
  have hki : (trS S).kind ((trS S).get xi name).1 = 2 := by show S.kindOf (S.get xi name).1 = 2; rw [hg]; exact hk
  rw [wk.w_on (X := trS S) hkx hn.d2 hn.d1 (by show (S.get xi name).2 = 0; rw [hg]) (fun e => by have := e.1; rw [hki] at this; cases this) (by simp)]
  have hgi : ((trS S).get xi name).1 = i := by show (S.get xi name).1 = i; rw [hg]
  rw [hgi] at hki ⊢
  rw [wk.w_dots hki, wk.w_nil]
  show ((S.parentOf i, e0, S.parentOf i), (0 : Int)) = _
  rw [hpar]
  rfl
end Go.Proofs.YtlnlehoekchdeaaGreat.cb
end
section
namespace Go.Proofs.YtlnlehoekchdeaaGreat.cb
open Go.ChangeShapes Go.WideShapes Go.ChangeAt Go.RowKit
open Go.Proofs.YtlnlehoekchdeaaGreat.pa (Bs Sv Strs addr_block)

theorem pcells9 : Tryz.prog.cellsOf 9 = 1 := by kernel_rfl
theorem pcells25 : Tryz.prog.cellsOf 25 = 2 := by kernel_rfl

set_option maxRecDepth 100000 in
theorem open_path {H : Type} {enc : TypeId × Value → H} {W : World} {r : Reach} {b0 : Nat} {sp : Nat → Bool} {held : Bool} {v : Value} {d : DataW H} {p : List MemPlace}
    (hv : Value.okWide Tryz.prog W r b0 25 v) (h : DataW.Trod enc Tryz.prog W 0 sp held 25 v d p) :
    ∃ A n c dd xs, v = .agg #[.slice A n c, .bool dd] ∧ n = List.length xs ∧ (n ≤ c ∧ c ≤ maxLen) ∧ Strs W W.heap.size A xs := by
  obtain ⟨v0, v1, y0, y1, m, rfl, _, _, h0, h1⟩ := Go.Joins.open_agg2 Tryz.underlying25 (by kernel_rfl) pcells25 hv h
  obtain ⟨dd, e1, _⟩ := DataW.trod_bool Tryz.underlying4 h1
  injection e1 with e1
  subst e1
  rcases open_strings Tryz.underlying23 Tryz.underlying9 pcells9 h0 with ⟨e0, _⟩ | ⟨a, len, cap, ss, e0, _, hl, hm, hz, _, hcell, _⟩
  · injection e0 with e0
    subst e0
    exact ⟨none, 0, 0, dd, [], rfl, rfl, ⟨Nat.le_refl _, by unfold maxLen; omega⟩, pa.Strs.nil _ _ _⟩
  · injection e0 with e0
    subst e0
    have hlen : len ≤ ss.length := by rw [hz]; split <;> omega
    refine ⟨some a, len, cap, dd, (ss.take len).map (·.data.toList), rfl, by rw [List.length_map, List.length_take]; omega, ⟨hl, hm⟩, ?_⟩
    intro hn
    have hcc : ∀ (j : Nat) x, ((ss.take len).map (·.data.toList))[j]? = some x → W.cell? (a.add j) = some (Sv x) := by
      intro j x hx
      rw [List.getElem?_map, Option.map_eq_some_iff] at hx
      obtain ⟨s, hs, rfl⟩ := hx
      have hj := (List.getElem?_eq_some_iff.1 hs).1
      rw [List.length_take] at hj
      rw [List.getElem?_take_of_lt (by omega)] at hs
      rw [hcell j (by omega), List.getD_eq_getElem?_getD, hs]
      simp
    have h00 := hcc 0 _ (List.getElem?_eq_getElem hn)
    refine ⟨a, rfl, ?_, hcc⟩
    have := World.block_lt_of_cell? W _ h00
    rw [addr_block] at this
    exact this

set_option maxRecDepth 100000 in
/-- A path that came in reads as it did, in any later world that is the same below the heap's first end. -/
theorem path_stays {H : Type} {enc : TypeId × Value → H} {W W' : World} {v : Value} {d : DataW H} {ps before : List MemPlace} {sp : Nat → Bool}
    (h : DataW.Trod enc Tryz.prog W 0 (fun _ => true) true 25 v d ps) (hb : Below W.heap.size W W') (hsub : ∀ x ∈ ps, x ∈ before) (hlt : ∀ x ∈ before, x.block < W.heap.size) (hsp : ∀ x ∈ before, sp x.block = true) (hlaid : laidOutB Tryz.prog = true) :
    DataW.Trod enc Tryz.prog W' 0 sp true 25 v d ps :=
  WideElems.Trod_stays hlaid (by kernel_rfl) (of_decide_eq_true (by kernel_rfl)) h (fun x hx => hb.same (hlt x (hsub x hx))) (fun x hx => hsp x (hsub x hx))
end Go.Proofs.YtlnlehoekchdeaaGreat.cb
end
section
namespace Go.Proofs.YtlnlehoekchdeaaGreat.pa
open Go.RowKit


theorem below_alloc (w : World) (o : Obj) : Below w.heap.size w (w.alloc o) := (Below.refl _ _).alloc (Nat.le_refl _) _

set_option maxRecDepth 100000 in
set_option maxHeartbeats 1000000 in
theorem rhas_any (s : ByteArray) (c : UInt8) (b : Bool) (w : World) (hm : s.size ≤ 9223372036854775807) (hb : decide (c ∈ s.data.toList) = b) : Calls Tryz.prog 73 #[.string s, .int .u8 (c.toNat : Int)] w fun e w' => e = .returned (.bool b) ∧ w = w' := by
  have HB := Lib.hid hb
  clear hb
  go_enter Tryz.func73, Tryz.ntmps73
  go_wp2_with fail
  go_loopg [5] s.size (fun g i wr => ∃ j : Nat, j ≤ s.size ∧ g + j = s.size ∧ i = .int .i64 j ∧ Hid (∀ x ∈ s.data.toList.take j, x ≠ c) ∧ w = wr)
  case atStart => exact ⟨0, by omega, by omega, rfl, (by show ∀ _, _; simp), rfl⟩
  case round =>
    obtain ⟨j, hj, hg, rfl, HN, rfl⟩ := hrel
    by_cases hjl : j < s.size
    · have hjL : j < s.data.toList.length := by rw [← Lib.size_eq]; exact hjl
      by_cases h : s[j] = c
      · have hT : (((s[j]).toNat : Int) == (c.toNat : Int)) = true := by rw [h]; simp
        have hbt : b = true := by
          rw [← HB.out]
          exact decide_eq_true (by rw [← h, getD_data s j hjl]; exact List.getElem_mem _)
        subst hbt
        clear h
        go_wp2_with fail
        try rw [Exit.noGoto_ret]
        go_ret
        exact ⟨rfl, rfl⟩
      · have hT : (((s[j]).toNat : Int) == (c.toNat : Int)) = false := by
          rw [beq_eq_false_iff_ne]
          intro e
          exact h (UInt8.toNat_inj.1 (by omega))
        have HN' : Hid (∀ x ∈ s.data.toList.take (j + 1), x ≠ c) := by
          show ∀ _, _
          rw [List.take_succ_eq_append_getElem hjL]
          intro x hx
          rw [List.mem_append, List.mem_singleton] at hx
          rcases hx with hx | rfl
          · exact HN.out x hx
          · rw [← getD_data s j hjl]; exact h
        clear h
        go_wp2_with fail
        go_roundg (gk - 1)
        case measure => omega
        case rel => exact ⟨j + 1, by omega, by omega, by go_num, HN', rfl⟩
    · have hbt : b = false := by
        rw [← HB.out]
        refine decide_eq_false (fun hc => ?_)
        have := HN.out c (by rw [List.take_of_length_le (by rw [← Lib.size_eq]; omega)]; exact hc)
        exact this rfl
      subst hbt
      have hkl : ¬ ((j : Int) < (s.size : Int)) := by omega
      clear hjl
      go_wp2_with fail
      go_ret
      exact ⟨rfl, rfl⟩

set_option maxRecDepth 100000 in
theorem rhas0 (s : ByteArray) (b : Bool) (w : World) (hm : s.size ≤ 9223372036854775807) (hb : decide ((0 : UInt8) ∈ s.data.toList) = b) : Calls Tryz.prog 73 #[.string s, .int .u8 0] w fun e w' => e = .returned (.bool b) ∧ w = w' := rhas_any s 0 b w hm hb
set_option maxRecDepth 100000 in
theorem rhas47 (s : ByteArray) (b : Bool) (w : World) (hm : s.size ≤ 9223372036854775807) (hb : decide ((47 : UInt8) ∈ s.data.toList) = b) : Calls Tryz.prog 73 #[.string s, .int .u8 47] w fun e w' => e = .returned (.bool b) ∧ w = w' := rhas_any s 47 b w hm hb

theorem strs_lit (w : World) (B : Nat) (hB : B ≤ w.heap.size) : (w.alloc (.cells #[] 9)).ownsRow B 9 1 (.slice (some ⟨w.heap.size, 0, none⟩) 0 0) 0 [] :=
  World.ownsRow_lit w #[] 0 hB (by unfold maxLen; omega) (by simp)

set_option maxRecDepth 100000 in
set_option maxHeartbeats 2000000 in
theorem parts_any (s : ByteArray) (w : World) (hs : s.size ≤ 400) :
    Calls Tryz.prog 74 #[.string s] w (OwnE w (comps s.data.toList)) := by
  obtain ⟨i0, hi, hz0, hz1, hz2⟩ := info_parts info9
  have HL := Lib.hid (Lib.size_eq s)
  go_enter Tryz.func74, Tryz.ntmps74
  go_wp2_with fail
  go_loopg [3, 4, 5] (s.size + 1) (fun g v f i wr => ∃ (k j : Nat) (pre : List Bs), k ≤ j ∧ j ≤ s.size + 1 ∧ g + j = s.size + 1 ∧ f = .int .i64 k ∧ i = .int .i64 j ∧ (j = s.size + 1 → k = s.size + 1) ∧ pre.length ≤ k ∧
      Hid (comps s.data.toList = pre ++ comps (s.data.toList.drop k)) ∧ Hid (∀ c ∈ (s.data.toList.drop k).take (j - k), c ≠ 47) ∧
      wr.ownsRow w.heap.size 9 1 v pre.length (pre.map Sv) ∧ Below w.heap.size w wr)
  case atStart => exact ⟨0, 0, [], by omega, by omega, by omega, rfl, rfl, by omega, by simp, (by show _ = _; simp), (by show ∀ _, _; simp), strs_lit w _ (Nat.le_refl _), below_alloc w _⟩
  case round =>
    obtain ⟨k, j, pre, hkj, hj, hg, rfl, rfl, hend, hp, HC, HN, hown, hb⟩ := hrel
    by_cases hjl : j < s.size
    · have hjL : j < s.data.toList.length := by rw [← Lib.size_eq]; exact hjl
      clear hend
      by_cases h47 : s[j] = 47
      · have hT : (((s[j]).toNat : Int) == 47) = true := by rw [h47]; rfl
        have HS := Lib.hid (comps_step s.data.toList k j hkj hjL HN.out (by rw [← getD_data s j hjl]; exact h47))
        clear h47
        by_cases hjk : k < j
        · go_wp2_with (at_builtin; go_must (refine wpList_append_own _ rfl (.tmp 26) (.tmp 31) 23 rfl w.heap.size 9 i0 _ 1 16 Tryz.underlying23 hi hz0 hz1 hz2 rfl (by decide) u3 pre.length (pre.map Sv) rfl (hown.alloc _) ⟨wr.heap.size, 0, none⟩ 1 1 [.string (s.extract k j)] rfl rfl (cell_one_new _ _ _) (by intro u hu; simp at hu; subst hu; rfl) (by unfold maxLen; omega) (by omega) (by have := hb.size; simp; omega) ?_); intro v1 w1 hown1 hgrow1 _)
          go_roundg (gk - 1)
          case measure => omega
          case rel =>
            have HS' := HS.out
            rw [one_ne _ (by intro h; have := congrArg List.length h; simp at this; omega)] at HS'
            refine ⟨j + 1, j + 1, pre ++ [(s.data.toList.drop k).take (j - k)], by omega, by omega, by omega, by go_num, by go_num, by omega, by simp; omega, ?_, ?_, ?_, ?_⟩
            · show _ = _
              rw [HC.out, HS', List.append_assoc]
            · show ∀ _, _
              simp
            · rw [ex_list] at hown1
              simpa using hown1
            · exact (hb.alloc hb.size _).grown hgrow1 (by have := hb.size; simp; omega) (fun g hg' => (hown.lt g hg').1)
        · have hje : j = k := by omega
          subst hje
          go_wp2_with fail
          go_roundg (gk - 1)
          case measure => omega
          case rel =>
            have HS' := HS.out
            rw [Nat.sub_self, List.take_zero, one_nil, List.nil_append] at HS'
            exact ⟨j + 1, j + 1, pre, by omega, by omega, by omega, by go_num, by go_num, by omega, by omega, (by show _ = _; rw [HC.out, HS']), (by show ∀ _, _; simp), hown, hb⟩
      · have hT : (((s[j]).toNat : Int) == 47) = false := by
          rw [beq_eq_false_iff_ne]
          intro h
          exact h47 (UInt8.toNat_inj.1 (by have : s[j].toNat = 47 := by omega
                                           simpa using this))
        have HN' : Hid (∀ c ∈ (s.data.toList.drop k).take (j + 1 - k), c ≠ 47) := by
          show ∀ _, _
          rw [drop_take_snoc _ _ _ hkj hjL]
          intro c hc
          rw [List.mem_append, List.mem_singleton] at hc
          rcases hc with hc | rfl
          · exact HN.out c hc
          · rw [← getD_data s j hjl]; exact h47
        clear h47
        go_wp2_with fail
        go_roundg (gk - 1)
        case measure => omega
        case rel => exact ⟨k, j + 1, pre, by omega, by omega, by omega, rfl, by go_num, by omega, hp, HC, HN', hown, hb⟩
    · by_cases hje : j = s.size
      · subst hje
        clear hend
        by_cases hjk : k < s.size
        · have HS := Lib.hid (comps_last s.data.toList k (by rw [← Lib.size_eq]; exact hjk) (by rw [← Lib.size_eq]; exact HN.out))
          go_wp2_with (at_builtin; go_must (refine wpList_append_own _ rfl (.tmp 26) (.tmp 31) 23 rfl w.heap.size 9 i0 _ 1 16 Tryz.underlying23 hi hz0 hz1 hz2 rfl (by decide) u3 pre.length (pre.map Sv) rfl (hown.alloc _) ⟨wr.heap.size, 0, none⟩ 1 1 [.string (s.extract k s.size)] rfl rfl (cell_one_new _ _ _) (by intro u hu; simp at hu; subst hu; rfl) (by unfold maxLen; omega) (by omega) (by have := hb.size; simp; omega) ?_); intro v1 w1 hown1 hgrow1 _)
          go_roundg (gk - 1)
          case measure => omega
          case rel =>
            refine ⟨s.size + 1, s.size + 1, pre ++ [(s.data.toList.drop k).take (s.size - k)], by omega, by omega, by omega, by go_num, by go_num, by omega, by simp; omega, ?_, ?_, ?_, ?_⟩
            · show _ = _
              have e1 : s.data.toList.drop (s.size + 1) = [] := List.drop_eq_nil_of_le (by rw [← HL.out]; omega)
              rw [e1, comps_nil, List.append_nil, HC.out, HS.out, ← HL.out]
            · show ∀ _, _
              simp
            · rw [ex_list] at hown1
              simpa using hown1
            · exact (hb.alloc hb.size _).grown hgrow1 (by have := hb.size; simp; omega) (fun g hg' => (hown.lt g hg').1)
        · have hke : k = s.size := by omega
          subst hke
          go_wp2_with fail
          go_roundg (gk - 1)
          case measure => omega
          case rel =>
            refine ⟨s.size + 1, s.size + 1, pre, by omega, by omega, by omega, by go_num, by go_num, by omega, by omega, ?_, ?_, hown, hb⟩
            · show _ = _
              rw [HC.out, List.drop_eq_nil_of_le (by rw [← HL.out]; omega), List.drop_eq_nil_of_le (by rw [← HL.out]; omega)]
            · show ∀ _, _
              simp
      · have hk1 := hend (by omega)
        have HF := Lib.hid (show comps s.data.toList = pre by rw [HC.out, List.drop_eq_nil_of_le (by rw [← HL.out]; omega), comps_nil, List.append_nil])
        have hkl : ¬ ((j : Int) ≤ (s.size : Int)) := by omega
        clear hend hjl hje hk1
        go_wp2_with fail
        go_ret
        rw [HF.out]
        exact ownE_of hown hb
end Go.Proofs.YtlnlehoekchdeaaGreat.pa
end
