/- For every list of acts, every path of names and both ways of following the law WalkFinds returns true, and what is handed in reads as it did; there are no conditions. -/
import Derived.Test.YtlnlehoekchdeaaGreatZ45
import Derived.Test.YtlnlehoekchdeaaGreatZ46
import Derived.Test.YtlnlehoekchdeaaGreatZ29
import Derived.Test.YtlnlehoekchdeaaGreatZ48
import Derived.Deep.RegionHeldLaw
import Derived.Deep.RegionWith
import Derived.Deep.QuietTactic
import Derived.BigQuiet
import Derived.ProofKit
import Derived.OpenShut
import Derived.ShutString
import Derived.SizedLaws
namespace Go.Proofs.YtlnlehoekchdeaaGreat.walkFinds
open Go.ChangeShapes Go.WideShapes Go.ChangeAt Go.RowKit
open Go.ChangeMaps (open_string shut_string)
open Go.Proofs.YtlnlehoekchdeaaGreat.cb
set_option linter.unusedVariables false

theorem own : ownKnob Tryz.prog.godebug = none := by kernel_rfl
theorem laid : laidOutB Tryz.prog = true := by kernel_rfl

open Go.Deep
open Go.Proofs.YtlnlehoekchdeaaGreat.br
open Go.Proofs.YtlnlehoekchdeaaGreat.bl (Pq)
open Go.Proofs.YtlnlehoekchdeaaGreat.wk (walkT)
open Go.Proofs.YtlnlehoekchdeaaGreat.pa (Bs Sv Strs own_form info9)
theorem step_strs {w : World} {ops : Array Oper} {o : Oper} {a : Act} {K : Act → World → Prop} {Q : Exit → Act → World → Prop} {E : Prop} (hgd : o.guard = none) (s x : Operand)
    (ho : o.op = .call { callee := .builtin .append, args := #[s, x], argTypes := #[23, 23] })
    (base : Nat) (v : Value) (hs : a.eval s = v) (hown : w.ownsRow base 9 1 v 0 []) (A : Option Addr) (m c B : Nat) (ys : List Bs) (hx : a.eval x = .slice A m c) (hm : m = ys.length) (hr : Strs w B A ys)
    (hlen : m ≤ 65536) (hbase : base ≤ w.heap.size)
    (h : ∀ v' w', w'.ownsRow base 9 1 v' ys.length (ys.map Sv) → w.grownBy w' v.ownBlock → K (a.put o.dst v') w') :
    if Region.wanted o (yielded ops a.tmps) = true then Oper.wp Tryz.prog o a w K Q else E := by
  have hw : Region.wanted o (yielded ops a.tmps) = true := by simp [Region.wanted, hgd]
  rw [if_pos hw]
  obtain ⟨i0, hi, hz0, hz1, hz2⟩ := info_parts info9
  subst hm
  cases A with
  | none =>
    have hy : ys = [] := by
      cases ys with
      | nil => rfl
      | cons y ys => obtain ⟨ad, e, _⟩ := hr (by simp); cases e
    subst hy
    have hrun := pa.run_append_nil (P := Tryz.prog) w base 23 o.type 9 i0 1 Tryz.underlying23 hi v 0 [] hown c
    unfold Oper.wp execOp
    simp only [ho, resolve, invoke, builtin, Sem.run_bind, Sem.run_pure, Result.andThen_ok, List.map_toArray, List.map_cons, List.map_nil, hs, hx, List.length_nil, hrun]
    exact h v w hown (World.grownBy.refl w _)
  | some ad =>
    refine wp_append_own w s x 23 ho base 9 i0 _ 1 16 Tryz.underlying23 hi hz0 hz1 hz2 rfl (by decide) v 0 [] hs hown ad ys.length c (ys.map Sv) hx (by rw [List.length_map]; omega) ?_ ?_ (by unfold maxLen; omega) (by omega) hbase ?_
    · intro j u hu
      rw [List.getElem?_map, Option.map_eq_some_iff] at hu
      obtain ⟨y, hy, rfl⟩ := hu
      obtain ⟨ad', e, _, hc⟩ := hr (by have := (List.getElem?_eq_some_iff.1 hy).1; omega)
      cases e
      exact hc j y hy
    · intro u hu
      simp at hu
      obtain ⟨_, _, rfl⟩ := hu
      rfl
    · intro v' w' h1 h2 _
      exact h v' w' (by simpa using h1) h2
/-- Names appended to an empty row of the call's own, in whatever world behind w2. -/
theorem row_any {w2 W w5 : World} {v5 : Value} {r : List Bs} {g : Nat} (hW : Below w2.heap.size w2 W) (hg : w2.heap.size ≤ g) (hown : w5.ownsRow w2.heap.size 9 1 v5 r.length (r.map Sv)) (hgr : W.grownBy w5 (Value.slice (some ⟨g, 0, none⟩) 0 0).ownBlock) :
    ∃ A5 c5, v5 = .slice A5 r.length c5 ∧ pa.Own w5 w2.heap.size A5 c5 r ∧ Below w2.heap.size w2 w5 ∧ W.heap.size ≤ w5.heap.size ∧ ∀ X, X < W.heap.size → X ≠ g → w5.heap[X]? = W.heap[X]? := by
  obtain ⟨A5, c5, rfl, ho, -⟩ := own_form hown
  exact ⟨A5, c5, rfl, ho, hW.grown hgr hW.size (fun k hk => by simp [Value.ownBlock] at hk; omega), hgr.size, fun X hX hne => hgr.block X hX (by simp [Value.ownBlock]; exact hne)⟩
theorem two_set {w5 : World} {X : Nat} {a : Addr} (h : a.block ≠ X) (v0 v1 : Value) : ((w5.setCell ⟨X, 0, none⟩ v0).setCell ⟨X, 1, none⟩ v1).cell? a = w5.cell? a := by
  rw [World.cell?_setCell_other _ _ _ _ (by intro e; subst e; exact h rfl), World.cell?_setCell_other _ _ _ _ (by intro e; subst e; exact h rfl)]
theorem own_new {w w2 w5 : World} {A0 A5 : Option Addr} {n0 c0 c5 : Nat} {d0 : Bool} {x0 : List Bs} (hwp : w.heap.size < w2.heap.size) (hbp : ∀ wr, Below w2.heap.size w2 wr → wr.cell? ⟨w.heap.size, 0, none⟩ = some (.slice A0 n0 c0) ∧ wr.cell? ⟨w.heap.size, 1, none⟩ = some (.bool d0))
    (hs : SL w5 A5 c5 x0) (hb : Below w2.heap.size w2 w5) (hn : n0 = x0.length) : ∃ G A' c', (Value.pointer (some ⟨w5.heap.size, 0, none⟩)) = .pointer (some ⟨G, 0, none⟩) ∧ Hid (Below w2.heap.size w2 (w5.alloc (.cells #[.slice A5 x0.length c5, .bool d0] 25))) ∧ Hid (SL (w5.alloc (.cells #[.slice A5 x0.length c5, .bool d0] 25)) A' c' x0) ∧ Hid ((w5.alloc (.cells #[.slice A5 x0.length c5, .bool d0] 25)).cell? ⟨G, 0, none⟩ = some (.slice A' n0 c') ∧ (w5.alloc (.cells #[.slice A5 x0.length c5, .bool d0] 25)).cell? ⟨G, 1, none⟩ = some (.bool d0)) :=
  ⟨_, A5, c5, rfl, Lib.hid (dn.below_step hb (dn.below_alloc _ _)), Lib.hid (hs.below (dn.below_alloc _ _)), Lib.hid ⟨by rw [hn]; simp, by simp⟩⟩
/-- A box of three cells. -/
structure Box3 (w : World) (G : Nat) (a : Int) (n : ByteArray) (i : Int) : Prop where
  c0 : w.cell? ⟨G, 0, none⟩ = some (.int .i64 a)
  c1 : w.cell? ⟨G, 1, none⟩ = some (.string n)
  c2 : w.cell? ⟨G, 2, none⟩ = some (.int .i64 i)
theorem Box3.below {w w' : World} {G : Nat} {a i : Int} {n : ByteArray} (h : Box3 w G a n i) (hb : Below w.heap.size w w') : Box3 w' G a n i :=
  have hG : G < w.heap.size := World.block_lt_of_cell? _ _ h.c0
  ⟨(hb.cell (p := ⟨G, 0, none⟩) hG).trans h.c0, (hb.cell (p := ⟨G, 1, none⟩) hG).trans h.c1, (hb.cell (p := ⟨G, 2, none⟩) hG).trans h.c2⟩
theorem box3 (w : World) (a : Int) (n : ByteArray) (i : Int) (t : TypeId) : Box3 (w.alloc (.cells #[.int .i64 a, .string n, .int .i64 i] t)) w.heap.size a n i := ⟨by simp, by simp, by simp⟩
theorem zero_box {w5 : World} {X : Nat} (h : w5.heap[X]? = some (.cells #[.slice none 0 0, .bool false] 25 (0, 0))) : w5.cell? ⟨X, 0, none⟩ = some (.slice none 0 0) ∧ w5.cell? ⟨X, 1, none⟩ = some (.bool false) ∧ w5.frozen? ⟨X, 0, none⟩ = false ∧ w5.frozen? ⟨X, 1, none⟩ = false := by
  refine ⟨?_, ?_, ?_, ?_⟩ <;> simp [World.cell?, World.frozen?, h]
theorem own_set {w2 w5 : World} {A5 : Option Addr} {n0 c5 X : Nat} {d0 : Bool} {x0 : List Bs} (ho : pa.Own w5 w2.heap.size A5 c5 x0) (hb : Below w2.heap.size w2 w5) (hx : w5.heap[X]? = some (.cells #[.slice none 0 0, .bool false] 25 (0, 0))) (hX : w2.heap.size ≤ X) (hn : n0 = x0.length) :
    ∃ G A' c', (Value.pointer (some ⟨X, 0, none⟩)) = .pointer (some ⟨G, 0, none⟩) ∧ Hid (Below w2.heap.size w2 ((w5.setCell ⟨X, 0, none⟩ (.slice A5 x0.length c5)).setCell ⟨X, 1, none⟩ (.bool d0))) ∧ Hid (SL ((w5.setCell ⟨X, 0, none⟩ (.slice A5 x0.length c5)).setCell ⟨X, 1, none⟩ (.bool d0)) A' c' x0) ∧ Hid (((w5.setCell ⟨X, 0, none⟩ (.slice A5 x0.length c5)).setCell ⟨X, 1, none⟩ (.bool d0)).cell? ⟨G, 0, none⟩ = some (.slice A' n0 c') ∧ ((w5.setCell ⟨X, 0, none⟩ (.slice A5 x0.length c5)).setCell ⟨X, 1, none⟩ (.bool d0)).cell? ⟨G, 1, none⟩ = some (.bool d0)) := by
  have hs := SL.own ho
  have hz := zero_box hx
  refine ⟨X, A5, c5, rfl, Lib.hid ((hb.setCell hX _).setCell hX _), Lib.hid ⟨fun hp => ?_, hs.lc⟩, Lib.hid ⟨?_, ?_⟩⟩
  · obtain ⟨ad, e, hlt, hc⟩ := hs.st hp
    have hne : ad.block ≠ X := by
      rcases ho.2 with ⟨_, h0⟩ | ⟨g, cap, cur, hv, _, hg, _⟩
      · omega
      · rw [e] at hv
        injection hv with h1
        injection h1 with h1
        subst h1
        rintro rfl
        rw [hx] at hg
        injection hg with hg
        injection hg with _ ht
        exact absurd ht (by decide)
    refine ⟨ad, e, by simpa using hlt, fun j y hj => ?_⟩
    rw [two_set (by rw [pa.addr_block]; exact hne)]
    exact hc j y hj
  · rw [hn, World.cell?_setCell_other _ _ _ _ (by intro e; injection e with _ e; exact absurd e (by decide))]
    exact World.cell?_setCell_same _ _ _ hz.1
  · exact World.cell?_setCell_same _ _ _ ((World.cell?_setCell_other _ _ _ _ (by intro e; injection e with _ e; exact absurd e (by decide))).trans hz.2.1)
set_option maxHeartbeats 4000000 in
set_option maxRecDepth 100000 in
theorem walk (A : Option Addr) (n c : Nat) (F : Nat → Act6) (A0 : Option Addr) (n0 c0 : Nat) (d0 : Bool) (x0 : List Bs) (fol : Bool) (w : World) (k1 : n ≤ c ∧ c ≤ maxLen) (hF : Acts w w.heap.size A n F)
    (hl0 : n0 = x0.length) (hc0 : n0 ≤ c0 ∧ c0 ≤ maxLen) (hs0 : Strs w w.heap.size A0 x0) :
    Calls Tryz.prog 3 #[.slice A n c, .agg #[.slice A0 n0 c0, .bool d0], .bool fol] w (AwakeE w) := by
  have hnm : n ≤ maxLen := Nat.le_trans k1.1 k1.2
  have HL0 := Lib.hid hl0
  have HC0 := Lib.hid hc0
  have HS0 := Lib.hid hs0
  have hwa := dn.below_alloc w (.cells #[.slice A0 n0 c0, .bool d0] 25)
  have p0 : (w.alloc (.cells #[.slice A0 n0 c0, .bool d0] 25)).cell? ⟨w.heap.size, 0, none⟩ = some (.slice A0 n0 c0) := by simp
  have p1 : (w.alloc (.cells #[.slice A0 n0 c0, .bool d0] 25)).cell? ⟨w.heap.size, 1, none⟩ = some (.bool d0) := by simp
  have hsa : (w.alloc (.cells #[.slice A0 n0 c0, .bool d0] 25)).heap.size = w.heap.size + 1 := World.size_alloc _ _
  have hFa : Acts (w.alloc (.cells #[.slice A0 n0 c0, .bool d0] 25)) (w.alloc (.cells #[.slice A0 n0 c0, .bool d0] 25)).heap.size A n F := by
    rw [hsa]; intro i hi; obtain ⟨b, off, e, hB, r⟩ := (hF.below hwa) i hi; exact ⟨b, off, e, by omega, r⟩
  obtain ⟨wa, hwe⟩ : ∃ wa, w.alloc (.cells #[.slice A0 n0 c0, .bool d0] 25) = wa := ⟨_, rfl⟩
  rw [hwe] at hwa p0 p1 hsa hFa
  have HWE := Lib.hid hwe
  have HBW := Lib.hid hwa
  have HP := Lib.hid (⟨p0, p1, hsa⟩ : _ ∧ _ ∧ _)
  have HBD := Lib.hid (fun w1 (hb : Below wa.heap.size wa w1) => build_any A n c F wa w1 hnm hFa hb)
  clear k1 hF hnm hl0 hc0 hs0 hwa p0 p1 hsa hFa hwe
  go_enter Tryz.func3, Tryz.ntmps3
  go_wp2_with fail
  rw [HWE.out]
  refine (awake_any _).mono ?_
  rintro _ w1 ⟨rfl, hb1⟩
  have HB1 := Lib.hid (HBD.out _ hb1)
  clear hb1 HBD HWE
  go_wp2_with fail
  refine HB1.out.mono ?_
  rintro _ w2 ⟨ok, P, D, RS, S, rfl, pl, tg, h1, hdb, -⟩
  have HQ2 := Lib.hid (DB.qc hdb h1.good)
  have h2 : BrX wa w2 P No S 9 60 := h1.sub fun _ h => h.elim
  have H2 := Lib.hid h2
  have HBB := Lib.hid (show Below w.heap.size w w2 from dn.below_step HBW.out h2.bel)
  have hpa : w2.cell? ⟨w.heap.size, 0, none⟩ = some (.slice A0 n0 c0) := (h2.bel.cell (p := ⟨w.heap.size, 0, none⟩) (by rw [HP.out.2.2]; show w.heap.size < _; omega)).trans HP.out.1
  have hpb : w2.cell? ⟨w.heap.size, 1, none⟩ = some (.bool d0) := (h2.bel.cell (p := ⟨w.heap.size, 1, none⟩) (by rw [HP.out.2.2]; show w.heap.size < _; omega)).trans HP.out.2.1
  have HPA := Lib.hid (⟨hpa, hpb⟩ : _ ∧ _)
  clear h1 hdb h2 HB1 HP HBW
  cases ok with
  | false =>
    go_wp2_with fail
    go_ret
    exact ⟨rfl, HBB.out⟩
  | true =>
    by_cases h20 : n0 ≤ 200
    case neg =>
      have hi20 : (200 : Int) < n0 := by omega
      clear h20
      go_wp2_with fail
      go_ret
      exact ⟨rfl, HBB.out⟩
    have hi20 : ¬ ((200 : Int) < n0) := by omega
    have H20 := Lib.hid h20
    clear h20
    have hwp : w.heap.size < w2.heap.size := World.block_lt_of_cell? _ _ hpa
    have HBP := Lib.hid (fun wr (h : Below w2.heap.size w2 wr) => (show wr.cell? ⟨w.heap.size, 0, none⟩ = some (.slice A0 n0 c0) ∧ wr.cell? ⟨w.heap.size, 1, none⟩ = some (.bool d0) from
      ⟨(h.cell (p := ⟨w.heap.size, 0, none⟩) hwp).trans HPA.out.1, (h.cell (p := ⟨w.heap.size, 1, none⟩) hwp).trans HPA.out.2⟩))
    have HS2 := Lib.hid (fun wr (h : Below w2.heap.size w2 wr) => (show Strs wr w.heap.size A0 x0 from HS0.out.below (HBB.out.trans (h.mono (by omega)))))
    go_upto_region 6 with fail
    go_cut [10] from 16 to 98 (fun v wx => ∃ G A' c', v = .pointer (some ⟨G, 0, none⟩) ∧ Hid (Below w2.heap.size w2 wx) ∧ Hid (SL wx A' c' x0) ∧ Hid (wx.cell? ⟨G, 0, none⟩ = some (.slice A' n0 c') ∧ wx.cell? ⟨G, 1, none⟩ = some (.bool d0)))
    case first =>
      have bA := dn.below_alloc w2 (.cells #[] 9)
      have bB := dn.below_step (dn.below_alloc w2 (.cells #[.slice none 0 0, .bool false] 25)) (dn.below_alloc (w2.alloc (.cells #[.slice none 0 0, .bool false] 25)) (.cells #[] 9))
      have bC := dn.below_step (dn.below_alloc w2 (.cells #[] 9)) (dn.below_alloc (w2.alloc (.cells #[] 9)) (.cells #[.slice none 0 0, .bool false] 25))
      have zB : ((w2.alloc (.cells #[.slice none 0 0, .bool false] 25)).alloc (.cells #[] 9)).heap[w2.heap.size]? = some (.cells #[.slice none 0 0, .bool false] 25 (0, 0)) := (Below.heap_alloc _ _ _ (by rw [World.size_alloc]; omega)).trans (heap_alloc_new w2 _)
      have zC : ((w2.alloc (.cells #[] 9)).alloc (.cells #[.slice none 0 0, .bool false] 25)).heap[w2.heap.size + 1]? = some (.cells #[.slice none 0 0, .bool false] 25 (0, 0)) := by have := heap_alloc_new (w2.alloc (.cells #[] 9)) (.cells #[.slice none 0 0, .bool false] 25); rwa [World.size_alloc] at this
      have oA := Lib.hid (pa.strs_lit w2 w2.heap.size (Nat.le_refl _))
      have oB := Lib.hid (pa.strs_lit (w2.alloc (.cells #[.slice none 0 0, .bool false] 25)) w2.heap.size (by rw [World.size_alloc]; omega))
      have oC := Lib.hid (World.ownsRow.alloc (pa.strs_lit w2 w2.heap.size (Nat.le_refl _)) (.cells #[.slice none 0 0, .bool false] 25))
      have sB : w2.heap.size < ((w2.alloc (.cells #[.slice none 0 0, .bool false] 25)).alloc (.cells #[] 9)).drew.heap.size := by show _ < ((w2.alloc (.cells #[.slice none 0 0, .bool false] 25)).alloc (.cells #[] 9)).heap.size; rw [World.size_alloc, World.size_alloc]; omega
      have sC : w2.heap.size + 1 < ((w2.alloc (.cells #[] 9)).alloc (.cells #[.slice none 0 0, .bool false] 25)).drew.heap.size := by show _ < ((w2.alloc (.cells #[] 9)).alloc (.cells #[.slice none 0 0, .bool false] 25)).heap.size; rw [World.size_alloc, World.size_alloc]; omega
      have hZ := Lib.hid (⟨bA, bB, bC, zB, zC, sB, sC⟩ : _ ∧ _ ∧ _ ∧ _ ∧ _ ∧ _ ∧ _)
      clear bA bB bC zB zC sB sC
      go_region_held_law (fun w' => w'.cell? ⟨w.heap.size, 0, none⟩ = some (.slice A0 n0 c0) ∧ w'.cell? ⟨w.heap.size, 1, none⟩ = some (.bool d0))
        (first | exact ⟨hpa, hpb⟩ | exact q5 | exact ⟨(two_set (by show w.heap.size ≠ _; omega) _ _).trans q5.1, (two_set (by show w.heap.size ≠ _; omega) _ _).trans q5.2⟩ | exact HBP.out _ hZ.out.1 | exact HBP.out _ hZ.out.2.1 | exact HBP.out _ hZ.out.2.2.1 | exact HBP.out _ (dn.below_alloc w2 _) | exact HBP.out _ (dn.below_step hbb5 (dn.below_alloc w5 _)) | exact HBP.out _ (by assumption) | assumption | go_keep)
        (first
        | (refine step_strs rfl (.tmp 34) (.tmp 36) rfl w2.heap.size (.slice (some ⟨w2.heap.size, 0, none⟩) 0 0) rfl oA.out A0 n0 c0 w.heap.size x0 rfl HL0.out (HS2.out _ hZ.out.1.drew) (by have := H20.out; omega) hZ.out.1.drew.size ?_; intro v5 w5 hown5 hg5; obtain ⟨A5, c5, rfl, ho5, hbb5, hsz5, -⟩ := row_any (g := w2.heap.size) hZ.out.1.drew (Nat.le_refl _) hown5 hg5; have q5 := HBP.out w5 hbb5)
        | (refine step_strs rfl (.tmp 34) (.tmp 36) rfl w2.heap.size (.slice (some ⟨w2.heap.size + 1, 0, none⟩) 0 0) rfl (by have := oB.out; rwa [World.size_alloc] at this) A0 n0 c0 w.heap.size x0 rfl HL0.out (HS2.out _ hZ.out.2.1.drew) (by have := H20.out; omega) hZ.out.2.1.drew.size ?_; intro v5 w5 hown5 hg5; obtain ⟨A5, c5, rfl, ho5, hbb5, hsz5, hkk⟩ := row_any (g := w2.heap.size + 1) hZ.out.2.1.drew (by omega) hown5 hg5; have q5 := HBP.out w5 hbb5; have hx5 := ((hkk w2.heap.size hZ.out.2.2.2.2.2.1 (by omega)).trans hZ.out.2.2.2.1); have hz5 := zero_box hx5)
        | (refine step_strs rfl (.tmp 34) (.tmp 36) rfl w2.heap.size (.slice (some ⟨w2.heap.size, 0, none⟩) 0 0) rfl oC.out A0 n0 c0 w.heap.size x0 rfl HL0.out (HS2.out _ hZ.out.2.2.1.drew) (by have := H20.out; omega) hZ.out.2.2.1.drew.size ?_; intro v5 w5 hown5 hg5; obtain ⟨A5, c5, rfl, ho5, hbb5, hsz5, hkk⟩ := row_any (g := w2.heap.size) hZ.out.2.2.1.drew (Nat.le_refl _) hown5 hg5; have q5 := HBP.out w5 hbb5; have hx5 := ((hkk (w2.heap.size + 1) hZ.out.2.2.2.2.2.2 (by omega)).trans hZ.out.2.2.2.2.1); have hz5 := zero_box hx5))
      all_goals
        go_wp2_with fail
        go_meet
        case rel => first
          | exact own_new hwp HBP.out (SL.own ho5) hbb5 HL0.out
          | exact own_set ho5 hbb5 hx5 (Nat.le_refl _) HL0.out
          | exact own_set ho5 hbb5 hx5 (Nat.le_succ _) HL0.out
    case rest =>
      obtain ⟨G, A', c', rfl, HBX, HSX, HCX⟩ := hcut
      obtain ⟨g0, g1⟩ := HCX.out
      have HCT := Lib.hid (H2.out.below HBX.out).ctr
      have HQX := Lib.hid (HQ2.out.below HBX.out)
      have hGl : G < wc.heap.size := World.block_lt_of_cell? _ _ g0
      have HA1 := Lib.hid (top_any (c := c') (d := d0) (fol := fol) HCT.out HL0.out (by have := H20.out; omega) (by have := HSX.out.lc; have := HL0.out; omega) HSX.out.st)
      have HA2 := Lib.hid (fun W (hb : Below wc.heap.size wc W) => rwalk_any (d := d0) (fol := fol) (HQX.out.below hb) HL0.out (by have := H20.out; omega) HC0.out.1 ((HS2.out W (dn.below_step HBX.out hb)).more (by have := (dn.below_step HBX.out hb).size; omega)))
      obtain ⟨R, hR⟩ : ∃ R, walkT (trS S) fol 40 1 (nsB x0) d0 = R := ⟨_, rfl⟩
      rw [hR] at HA1 HA2
      clear hR HCT HQX H2 HQ2
      obtain ⟨⟨xa, xn, xi⟩, xe⟩ := R
      unfold TopE FoundV at HA1 HA2
      dsimp only at HA1 HA2
      go_wp2_with fail
      refine HA1.out.mono ?_
      rintro _ w3 ⟨rfl, hb3⟩
      have F1 := Lib.hid (box3 w3 xa xn xi 32)
      have HB3 := Lib.hid (fun ob => dn.below_step hb3 (dn.below_alloc w3 ob))
      obtain ⟨G1, hG1⟩ : ∃ G, w3.heap.size = G := ⟨_, rfl⟩
      rw [hG1] at F1
      have HPP := Lib.hid (fun W (hb : Below wc.heap.size wc W) => HBP.out W (dn.below_step HBX.out hb))
      have e0 : ∀ ob, (w3.alloc ob).cell? ⟨w.heap.size, 0, none⟩ = some (.slice A0 n0 c0) := fun ob => (HPP.out _ (HB3.out ob)).1
      have e1 : ∀ ob, (w3.alloc ob).cell? ⟨w.heap.size, 1, none⟩ = some (.bool d0) := fun ob => (HPP.out _ (HB3.out ob)).2
      clear hb3 HA1 g1
      go_wp2_with fail
      refine (HA2.out _ (HB3.out _)).mono ?_
      rintro _ w4 ⟨rfl, hb4⟩
      clear hG1 e0 e1
      have F2 := Lib.hid (box3 w4 xa xn xi 36)
      have HB4 := Lib.hid (fun ob => dn.below_step (HB3.out _) (dn.below_step hb4 (dn.below_alloc w4 ob)))
      have F14 := Lib.hid (fun ob => F1.out.below (dn.below_step hb4 (dn.below_alloc w4 ob)))
      obtain ⟨G2, hG2⟩ : ∃ G, w4.heap.size = G := ⟨_, rfl⟩
      rw [hG2] at F2
      have i0 : ∀ ob, (w4.alloc ob).cell? ⟨G, 0, none⟩ = some (.slice A' n0 c') := fun ob => ((HB4.out ob).cell (p := ⟨G, 0, none⟩) hGl).trans g0
      clear hb4 HA2 F1
      have HR1 := Lib.hid (fun ob => (show Box3 (w4.alloc ob) G1 xa xn xi from F14.out ob))
      clear i0
      have i0 : ∀ ob, (w4.alloc ob).cell? ⟨G, 0, none⟩ = some (.slice A' n0 c') := fun ob => ((HB4.out ob).cell (p := ⟨G, 0, none⟩) hGl).trans g0
      go_wp2_with fail
      go_loopg [59] n0 (fun g s wr => ∃ k : Nat, g + k = n0 ∧ s = .int .i64 k ∧ Hid (Below wc.heap.size wc wr) ∧ Hid (Box3 wr G1 xa xn xi) ∧ Hid (Box3 wr G2 xa xn xi))
      case atStart => exact ⟨0, by omega, rfl, Lib.hid (HB4.out _), Lib.hid (F14.out _), Lib.hid F2.out⟩
      case round =>
        obtain ⟨k, hgk, rfl, HW, HX1, HX2⟩ := hrel
        clear i0
        by_cases hkn : k < n0
        · have hk : k < x0.length := by rw [← HL0.out]; exact hkn
          have hx : x0[k]? = some x0[k] := List.getElem?_eq_getElem hk
          have j0 : wr.cell? ⟨G, 0, none⟩ = some (.slice A' n0 c') := (HW.out.cell (p := ⟨G, 0, none⟩) hGl).trans g0
          have j1 := (HPP.out wr HW.out).1
          obtain ⟨ad, rfl, -, hc1⟩ := (HSX.out.below HW.out).st (by omega)
          obtain ⟨ae, rfl, -, hc2⟩ := (HS2.out wr (dn.below_step HBX.out HW.out)) (by omega)
          have q1 := hc1 k _ hx
          have q2 := hc2 k _ hx
          generalize x0[k] = x at *
          have hb0 : (0 : Int) ≤ (k : Int) := by omega
          have hb1 : (k : Int) < (n0 : Int) := by omega
          have hcc1 : n0 ≤ c' := by have := HSX.out.lc; have := HL0.out; omega
          clear hc1 hc2 hx hk g0
          go_wp2_with fail
          go_quiet (fail)
          go_wp2_with fail
          go_roundg (gk - 1)
          case measure => omega
          case rel => exact ⟨k + 1, by omega, by go_num, Lib.hid (dn.below_drewN HW.out _), Lib.hid ⟨HX1.out.c0, HX1.out.c1, HX1.out.c2⟩, Lib.hid ⟨HX2.out.c0, HX2.out.c1, HX2.out.c2⟩⟩
        · have hjn : ¬ ((k : Int) < (n0 : Int)) := by omega
          have a0 := HX1.out.c0
          have a1 := HX1.out.c1
          have a2 := HX1.out.c2
          have b0 := HX2.out.c0
          have b1 := HX2.out.c1
          have b2 := HX2.out.c2
          have HE := Lib.hid (show Below w.heap.size w wr from dn.below_step HBB.out (dn.below_step HBX.out HW.out))
          clear hkn
          go_wp2_with fail
          go_ret
          exact ⟨by simp, HE.out⟩

set_option maxRecDepth 100000 in
theorem lifted (os : Os) (started : os.Started) (H : Type) (enc : TypeId × Value → H) :
    ReturnsInHanded {} Tryz.checked os 3 .any (Rows.walkFindsSpec.pre6 enc Tryz.prog Tryz.f3 Rows.walkFindsRow.domain false) (Rows.walkFindsSpec.post enc Tryz.prog Tryz.f3 false true false false) := by
  refine returnsInHanded_of_change_sized (C := Tryz.checked) own started (by kernel_rfl) Tryz.func3
    (ChangeSpec.witness6 (enc := enc) (C := Tryz.checked) false ⟨#[], #[.slice none 0 0, .agg #[.slice none 0 0, .bool false], .bool false], []⟩ 8 (by kernel_rfl) (by kernel_rfl) (by kernel_rfl) (by kernel_rfl)) ?_
  intro W base args ds gs before hval0 hW hcnd hsz _
  have hval : ∀ (j : Nat) t v, Tryz.f3.params[j]? = some t → args[j]? = some v → Value.okWide Tryz.prog W .any base t v := hval0
  have hW' := hW
  obtain ⟨p, q, hA0, hV, rfl, hfz, hnd⟩ := hW
  have hA : DataW.TrodAll enc Tryz.prog W 0 (fun _ => true) true Tryz.f3.params.toList args.toList ds p := hA0
  rw [Tryz.params3] at hA hval
  obtain ⟨v0, vs0, d0, ds0, p0, q0, hargs, rfl, rfl, h0, r0⟩ := trodAll_cons hA
  obtain ⟨v1, vs1, d1, ds1, p1, q1, rfl, rfl, rfl, h1, r1⟩ := trodAll_cons r0
  obtain ⟨v2, vs2, d2, ds2, p2, q2, rfl, rfl, rfl, h2, r2⟩ := trodAll_cons r1
  obtain ⟨rfl, rfl, rfl⟩ := trodAll_nil r2
  obtain rfl : args = #[v0, v1, v2] := by cases args; simp_all
  obtain ⟨rfl, rfl⟩ := trodVars_none hV
  have hlt := fun x hx => hW'.lt x hx
  have t0 := h0
  obtain ⟨A0, n0, c0, x0, rfl, e0, s0⟩ := open_acts (hval 0 22 v0 rfl rfl) h0
  have t1 := h1
  obtain ⟨A1, n1, c1, d1, x1, rfl, l1, e1, s1⟩ := open_path (hval 1 25 v1 rfl rfl) h1
  obtain ⟨a2, rfl, rfl, rfl⟩ := open_bool Tryz.underlying4 (hval 2 4 v2 rfl rfl) h2
  clear hA0 hval0
  refine (walk A0 n0 c0 x0 A1 n1 c1 d1 x1 a2 W e0 s0 l1 e1 s1).mono fun e W' ⟨he, hg⟩ => ?_
  subst he
  exact ⟨_, rfl, law_post (pv := []) hW' (fun _ _ _ => (trodAll_cons_mk (shut_bool Tryz.underlying4 _) trodAll_mk0)) (fun sp hsp => (trodAll_cons_mk (arg_stays t0 hg (by simp +contextual) hlt hsp laid) (trodAll_cons_mk (path_stays t1 hg (by simp +contextual) hlt hsp laid) (trodAll_cons_mk (shut_bool Tryz.underlying4 _) trodAll_mk0)))) (fun _ _ => rfl) (by simp)
    hg (ok_one (by kernel_rfl) rfl (okWide_bool_mk Tryz.underlying4 _))⟩

theorem over : Rows.walkFindsRow.holds Tryz.pinned (OpenSpec.ofChange Rows.walkFindsSpec) :=
  OpenClaim.holds_of_wide 3 Tryz.f3 rfl rfl rfl rfl rfl rfl rfl ⟨rfl, rfl, rfl, rfl, rfl⟩ rfl rfl rfl rfl rfl (by kernel_rfl) Tryz.func3 (by kernel_rfl)
    (of_decide_eq_true (by kernel_rfl)) (by unfold Func.isWrapper; first | (rw [if_pos (by decide +kernel)]; kernel_rfl) | (rw [if_neg (by decide +kernel)]; exact ⟨rfl, rfl⟩))
    (fun os started H enc _ => lifted os started H enc)

/-- The statement. -/
theorem proved : Rows.WalkFindsSaid :=
  over
end Go.Proofs.YtlnlehoekchdeaaGreat.walkFinds
