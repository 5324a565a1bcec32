/- The document's own walk: it hands back what the walk by steps says. -/
import Derived.Test.YtlnlehoekchdeaaGreatZ45
import Derived.Test.YtlnlehoekchdeaaGreatZ47
import Derived.Test.YtlnlehoekchdeaaGreatZ29
import Derived.Test.YtlnlehoekchdeaaGreatZ31
section
namespace Go.Proofs.YtlnlehoekchdeaaGreat.cb
open Go.RowKit Go.Deep
open Go.Proofs.YtlnlehoekchdeaaGreat.br
open Go.Proofs.YtlnlehoekchdeaaGreat.bl (Pq Only)
open Go.Proofs.YtlnlehoekchdeaaGreat.pa (Bs Sv Strs own_form rparse_any ParseE)
open Go.Proofs.YtlnlehoekchdeaaGreat.wk (walkT w_nil w_kind w_dots w_dot w_err w_loop w_link w_last w_on)
set_option linter.unusedVariables false
set_option linter.unusedSimpArgs false
structure QC (w : World) (D : Nat) (S : BS) : Prop where
  kind : ∀ W i, Below w.heap.size w W → Calls Tryz.prog 33 #[Pq D, .int .i64 i] W (RetQ W (.int .i64 (S.kindOf i)))
  parent : ∀ W i, Below w.heap.size w W → Calls Tryz.prog 34 #[Pq D, .int .i64 i] W (RetQ W (.int .i64 (S.parentOf i)))
  get : ∀ W a s, Below w.heap.size w W → Calls Tryz.prog 35 #[Pq D, .int .i64 a, .string s] W (RetQ W (.tuple #[.int .i64 (S.get a s).1, .int .i64 (S.get a s).2]))
  target : ∀ W i, Below w.heap.size w W → Calls Tryz.prog 36 #[Pq D, .int .i64 i] W (RetQ W (.tuple #[.string (S.targetOf i).1, .int .i64 (S.targetOf i).2]))
theorem QC.below {w w' : World} {D : Nat} {S : BS} (h : QC w D S) (hb : Below w.heap.size w w') : QC w' D S :=
  ⟨fun W i k => h.kind W i (dn.below_step hb k), fun W i k => h.parent W i (dn.below_step hb k), fun W a s k => h.get W a s (dn.below_step hb k), fun W i k => h.target W i (dn.below_step hb k)⟩
theorem DB.qc {w : World} {D lo RS room : Nat} {pl : Nat → Pd} {tag : Nat → Nat} {S : BS} (h : DB w D lo RS pl tag S room) (hG : br.Good S room) : QC w D S :=
  ⟨fun W i k => q_kind (h.below k) i, fun W i k => q_parent (h.below k) i, fun W a s k => q_get (h.below k) hG a s, fun W i k => q_target (h.below k) i⟩
def RowQ (w : World) (R : Nat) : Prop := w.heap[R]? = some (.cells #[.int .i64 0, .string ⟨#[]⟩, .int .i64 0] 36 (0, 0))
theorem RowQ.lt {w : World} {R : Nat} (h : RowQ w R) : R < w.heap.size := by
  rcases Nat.lt_or_ge R w.heap.size with h1 | h1
  · exact h1
  · unfold RowQ at h; rw [Array.getElem?_eq_none h1] at h; cases h
theorem RowQ.below {w w' : World} {R : Nat} (h : RowQ w R) (hb : Below w.heap.size w w') : RowQ w' R := (hb.block R h.lt).trans h
theorem RowQ.facts {w : World} {R : Nat} (h : RowQ w R) : w.cell? ⟨R, 0, none⟩ = some (.int .i64 0) ∧ w.cell? ⟨R, 1, none⟩ = some (.string ⟨#[]⟩) ∧ w.cell? ⟨R, 2, none⟩ = some (.int .i64 0) ∧ ∀ j, w.frozen? ⟨R, j, none⟩ = false :=
  ⟨by rw [cell_row h]; rfl, by rw [cell_row h]; rfl, by rw [cell_row h]; rfl, fun j => by unfold RowQ at h; simp [World.frozen?, h]⟩
/-- Names that can be read. -/
structure SL (w : World) (A : Option Addr) (c : Nat) (ns : List Bs) : Prop where
  st : Strs w w.heap.size A ns
  lc : ns.length ≤ c
theorem SL.below {w w' : World} {A : Option Addr} {c : Nat} {ns : List Bs} (h : SL w A c ns) (hb : Below w.heap.size w w') : SL w' A c ns := ⟨(h.st.below hb).more hb.size, h.lc⟩
theorem SL.own {w : World} {lo c : Nat} {A : Option Addr} {ns : List Bs} (h : pa.Own w lo A c ns) : SL w A c ns := ⟨h.strs, by
  rcases h.2 with ⟨_, h0⟩ | ⟨g, cap, cur, hv, _, _, hnc, _⟩
  · omega
  · injection hv with _ _ e3; omega⟩
theorem SL.tail {w : World} {g0 o0 c q : Nat} {ad : Addr} {x : Bs} {r : List Bs} (h : SL w (some ⟨g0, o0, none⟩) c (x :: r)) (hq : r.length = q) (hc : q = 0 ∨ ad = ⟨g0, o0 + 1, none⟩) : Strs w w.heap.size (some ad) r := fun hn => by
  rcases hc with h0 | rfl
  · omega
  · obtain ⟨ad, e, h1, h2⟩ := h.st (Nat.succ_pos _)
    cases e
    refine ⟨_, rfl, h1, fun j y hy => ?_⟩
    have := h2 (j + 1) y hy
    have e : (Addr.add ⟨g0, o0 + 1, none⟩ j : Addr) = Addr.add ⟨g0, o0, none⟩ (j + 1) := by
      rw [show (⟨g0, o0 + 1, none⟩ : Addr) = Addr.add ⟨g0, o0, none⟩ 1 from by simp [Addr.add], pa.addr_add, Nat.add_comm]
    rw [e]; exact this
theorem own_max {w : World} {lo c : Nat} {A : Option Addr} {ns : List Bs} (h : pa.Own w lo A c ns) : ns.length ≤ maxLen := by
  rcases h.2 with ⟨_, h0⟩ | ⟨g, cap, cur, hv, _, _, hnc, hcm, _⟩
  · omega
  · omega
theorem slash_at (ts : ByteArray) (h : 0 < ts.size) : wk.slash ts = decide (ts[0] = 47) := by
  obtain ⟨⟨l⟩⟩ := ts
  cases l with
  | nil => exact absurd h (by simp [ByteArray.size])
  | cons c r => unfold wk.slash; show (some c == some 47) = decide (c = 47); by_cases e : c = 47 <;> simp [e]
/-- What an append onto an empty row of the call's own gives. -/
theorem SL.made {w w2 : World} {v2 : Value} {r : List Bs} (hown : w2.ownsRow w.heap.size 9 1 v2 ([] ++ r).length (([] ++ r).map Sv)) (hg : (w.alloc (.cells #[] 9)).grownBy w2 (Value.slice (some ⟨w.heap.size, 0, none⟩) 0 0).ownBlock) :
    ∃ A2 c2, v2 = .slice A2 r.length c2 ∧ pa.Own w2 w.heap.size A2 c2 r ∧ Below w.heap.size w w2 := by
  rw [List.nil_append] at hown
  obtain ⟨A2, c2, rfl, ho, -⟩ := own_form hown
  exact ⟨A2, c2, rfl, ho, (dn.below_alloc w _).grown hg (by rw [World.size_alloc]; omega) (fun k hk => by simp [Value.ownBlock] at hk; omega)⟩
set_option maxRecDepth 100000 in
set_option maxHeartbeats 4000000 in
theorem rwalk_any {w : World} {D n c : Nat} {A : Option Addr} {ns : List Bs} {d fol : Bool} {S : BS} (hQ : QC w D S) (hn : n = ns.length) (hl : n ≤ 400) (hc : n ≤ c) (hs : Strs w w.heap.size A ns) :
    Calls Tryz.prog 14 #[Pq D, .agg #[.slice A n c, .bool d], .bool fol] w (TopE w (walkT (trS S) fol 40 1 (nsB ns) d)) := by
  subst hn
  obtain ⟨R, hR⟩ : ∃ R, walkT (trS S) fol 40 1 (nsB ns) d = R := ⟨_, rfl⟩
  have HRR := Lib.hid hR
  rw [hR]
  have HQ := Lib.hid hQ
  obtain ⟨b, hb⟩ : ∃ b, w.heap.size = b := ⟨_, rfl⟩
  obtain ⟨w1, hw1⟩ : ∃ w1, w.alloc (.cells #[.slice A ns.length c, .bool d] 25) = w1 := ⟨_, rfl⟩
  obtain ⟨w2, hw2⟩ : ∃ w2, w1.alloc (.cells #[.int .i64 0, .string ⟨#[]⟩, .int .i64 0] 36) = w2 := ⟨_, rfl⟩
  obtain ⟨Rb, hRb⟩ : ∃ Rb, b + 1 = Rb := ⟨_, rfl⟩
  have s1 : w1.heap.size = Rb := by rw [← hw1, World.size_alloc, hb, hRb]
  have b1 : Below w.heap.size w w1 := by rw [← hw1]; exact dn.below_alloc w _
  have b2 : Below w1.heap.size w1 w2 := by rw [← hw2]; exact dn.below_alloc w1 _
  have HB2 := Lib.hid (dn.below_step b1 b2)
  have hp2 : w2.heap[b]? = some (.cells #[.slice A ns.length c, .bool d] 25 (0, 0)) := by
    rw [b2.block b (by omega), ← hw1, ← hb]; exact heap_alloc_new w _
  have HP2 := Lib.hid hp2
  have HRb2 := Lib.hid (show RowQ w2 Rb by unfold RowQ; rw [← hw2, ← s1]; exact heap_alloc_new w1 _)
  have p0 : w2.cell? ⟨b, 0, none⟩ = some (.slice A ns.length c) := by rw [cell_row hp2]; rfl
  have p1 : w2.cell? ⟨b, 1, none⟩ = some (.bool d) := by rw [cell_row hp2]; rfl
  have hRl : w.heap.size ≤ Rb := by omega
  have hs2 : Strs w2 w.heap.size A ns := hs.below HB2.out
  have HS2 := Lib.hid (show Strs (w2.alloc (.cells #[] 9)) w.heap.size A ns from hs.below (dn.below_step HB2.out (dn.below_alloc w2 _)))
  have p0a : (w2.alloc (.cells #[] 9)).cell? ⟨b, 0, none⟩ = some (.slice A ns.length c) := ((dn.below_alloc w2 _).cell (p := ⟨b, 0, none⟩) (World.block_lt_of_cell? _ _ p0)).trans p0
  have hb2s := b2.size
  clear hs hQ hR hs2 b1 b2 hp2
  go_enter Tryz.func14, Tryz.ntmps14
  go_upto_region 3 with (at_builtin; go_must (refine pa.wpList_append_strs _ rfl (.tmp 21) (.tmp 23) rfl w2.heap.size _ [] rfl (pa.strs_lit w2 w2.heap.size (Nat.le_refl _)) A ns.length c w.heap.size ns rfl rfl HS2.out (by simp; omega) (by simp) ?_); intro v3 w3 hown3 hg3; obtain ⟨A3, c3, rfl, ho3, hb3⟩ := SL.made hown3 hg3)
  have HP3 := Lib.hid ((hb3.block b (by omega)).trans HP2.out)
  have p3 : w3.cell? ⟨b, 1, none⟩ = some (.bool d) := by rw [cell_row HP3.out]; rfl
  obtain ⟨Nb, hNb⟩ : ∃ Nb, w3.heap.size = Nb := ⟨_, rfl⟩
  have hb4 := dn.below_alloc w3 (.cells #[.int .i64 0, .string ⟨#[]⟩, .int .i64 0] 36)
  have HRb4 := Lib.hid ((HRb2.out.below hb3).below hb4)
  have HNb4 := Lib.hid (show RowQ (w3.alloc (.cells #[.int .i64 0, .string ⟨#[]⟩, .int .i64 0] 36)) Nb by unfold RowQ; rw [← hNb]; exact heap_alloc_new w3 _)
  have HB4 := Lib.hid (dn.below_step (dn.below_step HB2.out hb3) hb4)
  have HSL4 := Lib.hid ((SL.own ho3).below hb4)
  clear hown3 hg3 ho3 hb3 hb4 HP2 HP3 HRb2 HB2 p0 p1 p0a HS2 s1 hw1 hw2 hb2s hb
  go_wp2_with fail
  go_loopg [8, 9, 10, 11] (40 * 401 + ns.length) (fun g s8 s9 s10 s11 wr => ∃ (m : Nat) (a : Int) (A : Option Addr) (c : Nat) (ns : List Bs) (d : Bool), g = m * 401 + ns.length ∧ m ≤ 40 ∧ ns.length ≤ 400 ∧ s8 = .int .i64 a ∧ s9 = .slice A ns.length c ∧ s10 = .bool d ∧ s11 = .int .i64 ((40 : Int) - m) ∧
    Hid (walkT (trS S) fol m a (nsB ns) d = R) ∧ Hid (SL wr A c ns) ∧ Hid (Below w.heap.size w wr) ∧ Hid (RowQ wr Rb) ∧ Hid (RowQ wr Nb))
  case atStart => exact ⟨40, 1, A3, c3, ns, d, rfl, Nat.le_refl _, hl, rfl, rfl, rfl, rfl, HRR, HSL4, HB4, HRb4, HNb4⟩
  case round =>
    clear HSL4 HB4 HRb4 HNb4 HRR hNb hRb
    obtain ⟨m, a, A, c, ns, d, hg, hm, hn, rfl, rfl, rfl, rfl, HRR, HSL, HB2, HRb2, HNb2⟩ := hrel
    rcases ns with _ | ⟨x, r⟩
    · have HF := Lib.hid (show R = ((a, wk.e0, a), 0) by rw [← HRR.out]; exact w_nil)
      obtain ⟨r0, r1, r2, rz⟩ := HRb2.out.facts
      have z0 := rz 0
      have z1 := rz 1
      have z2 := rz 2
      obtain ⟨n0, n1, n2, -⟩ := HNb2.out.facts
      have HS := Lib.hid (fun p q u => box_set3 (t := 36) (m := (0, 0)) (B := Rb) hRl HRb2.out HB2.out p q u)
      clear rz
      go_wp2_with fail
      obtain ⟨hx, hy⟩ := HS.out _ _ _
      refine bodyPost_ret (results_row_tmp rfl _ _ Rb _ _ rfl hx Tryz.underlying36 (by rfl) (by rfl)) rfl ?_
      exact ⟨by rw [HF.out]; rfl, hy⟩
    · have hx := HSL.out
      obtain ⟨ad, rfl, ha2, ha3⟩ := hx.st (Nat.succ_pos _)
      obtain ⟨g0, o0, rfl, -⟩ := spot_none (ha3 0 x rfl)
      obtain ⟨XN, hXN⟩ : ∃ XN : ByteArray, (⟨x.toArray⟩ : ByteArray) = XN := ⟨_, rfl⟩
      have hx0 : wr.cell? ⟨g0, o0, none⟩ = some (.string XN) := by have := ha3 0 x rfl; rw [show (Addr.add ⟨g0, o0, none⟩ 0 : Addr) = ⟨g0, o0, none⟩ from by simp [Addr.add]] at this; rw [this, ← hXN]
      have HRX := Lib.hid (show walkT (trS S) fol m a (XN :: nsB r) d = R by rw [← HRR.out, ← hXN]; rfl)
      have HD2 := Lib.hid (show (XN.toList == [46, 46]) = decide (XN = wk.dot2) by rw [← dn.beq_names, show wk.dot2.toList = [46, 46] from by rw [Lib.toList_data]; rfl])
      have HD1 := Lib.hid (show (XN.toList == [46]) = decide (XN = wk.dot1) by rw [← dn.beq_names, show wk.dot1.toList = [46] from by rw [Lib.toList_data]; rfl])
      have hlc : r.length + 1 ≤ c := hx.lc
      obtain ⟨q, hq⟩ : ∃ q, r.length = q := ⟨_, rfl⟩
      have HQL := Lib.hid hq
      have hqn : q + 1 ≤ 400 := by rw [← hq]; exact hn
      have HGK := Lib.hid (show gk = m * 401 + (q + 1) by rw [← hq]; exact hg)
      rw [List.length_cons, hq]
      rw [hq] at hlc
      obtain ⟨ad', c', hsl, hcc⟩ := run_tail g0 o0 q c hlc
      have hsl2 : ∀ W, (Instr.sliceAt 23 (.slice (some ⟨g0, o0, none⟩) (q + 1) c) (some (.int .i64 1)) none none).run Tryz.prog W = .ok (.slice (some ad') q c') W := fun W => by
        rw [run_sliceAt_slice (P := Tryz.prog) W 23 _ _ _ _ (by kernel_rfl)]; exact hsl W
      have HST := Lib.hid ((SL.tail hx hq hcc.1).below (dn.below_alloc wr (.cells #[] 9)))
      clear hx ha2 ha3 hXN HRR HSL hg hn hq hcc
      go_upto_region 9 with (at_builtin; go_must (refine pa.wpList_append_strs _ rfl (.tmp 34) (.tmp 36) rfl wr.heap.size _ [] rfl (pa.strs_lit wr wr.heap.size (Nat.le_refl _)) (some ad') q c' wr.heap.size r rfl HQL.out.symm HST.out (by simp; omega) (by simp) ?_); intro v3 w3 hown3 hg3; obtain ⟨A3, c3, rfl, ho3, hb3⟩ := SL.made hown3 hg3)
      rw [HQL.out]
      have HSL := Lib.hid (SL.own ho3)
      have HB3 := Lib.hid (dn.below_step HB2.out hb3)
      have HRb3 := Lib.hid (HRb2.out.below hb3)
      have HNb3 := Lib.hid (HNb2.out.below hb3)
      clear hown3 hg3 ho3 hb3 hx0 hsl hsl2 HST HB2 HRb2 HNb2
      obtain ⟨lb, hlb⟩ : ∃ lb, decide (q = 0) = lb := ⟨_, rfl⟩
      have HLB := Lib.hid hlb
      have hqb : ((q : Int) == 0) = lb := by rw [← hlb]; by_cases e : q = 0 <;> simp [e]
      have HRN := Lib.hid (show nsB r = [] ↔ lb = true by rw [← hlb, decide_eq_true_iff, ← HQL.out, nsB_nil]; exact ⟨fun e => by rw [e]; rfl, List.eq_nil_of_length_eq_zero⟩)
      clear hlb
      have HK := Lib.hid (HQ.out.kind w3 a HB3.out)
      unfold RetQ at HK
      by_cases hk : S.kindOf a = 2
      case neg =>
        have HF := Lib.hid (show R = (wk.r0, 20) by rw [← HRX.out]; exact w_kind hk)
        generalize S.kindOf a = kk at HK hk
        have qk : (kk != 2) = true := by simpa using hk
        clear hk
        go_wp2_with fail
        refine HK.out.mono ?_
        rintro _ w4 ⟨rfl, rfl⟩
        obtain ⟨r0, r1, r2, rz⟩ := HRb3.out.facts
        have z0 := rz 0
        have z1 := rz 1
        have z2 := rz 2
        obtain ⟨n0, n1, n2, -⟩ := HNb3.out.facts
        have HS := Lib.hid (fun p q u => box_set3 (t := 36) (m := (0, 0)) (B := Rb) hRl HRb3.out HB3.out p q u)
        clear rz
        go_wp2_with fail
        obtain ⟨hx, hy⟩ := HS.out _ _ _
        refine bodyPost_ret (results_row_tmp rfl _ _ Rb _ _ rfl hx Tryz.underlying36 (by rfl) (by rfl)) rfl ?_
        exact ⟨by rw [HF.out]; rfl, hy⟩
      rw [hk] at HK
      go_wp2_with fail
      refine HK.out.mono ?_
      rintro _ w4 ⟨rfl, rfl⟩
      by_cases h1 : XN = wk.dot1
      · have p1 : (XN.toList == [46]) = true := by rw [HD1.out, decide_eq_true h1]
        have HRR2 := Lib.hid (show walkT (trS S) fol m a (nsB r) d = R by rw [← HRX.out, h1]; exact (w_dot hk).symm)
        clear h1 hk
        go_wp2_with fail
        go_roundg (m * 401 + r.length)
        case measure => have := HGK.out; have := HQL.out; omega
        case rel => exact ⟨m, a, _, _, r, d, rfl, hm, by have := HQL.out; omega, rfl, by rw [HQL.out], rfl, rfl, HRR2, HSL, HB3, HRb3, HNb3⟩
      have p1 : (XN.toList == [46]) = false := by rw [HD1.out, decide_eq_false h1]
      by_cases h2 : XN = wk.dot2
      · have p2 : (XN.toList == [46, 46]) = true := by rw [HD2.out, decide_eq_true h2]
        have HPa := Lib.hid (HQ.out.parent w4 a HB3.out)
        unfold RetQ at HPa
        have HRR2 := Lib.hid (show walkT (trS S) fol m (S.parentOf a) (nsB r) d = R by rw [← HRX.out, h2]; exact (w_dots hk).symm)
        generalize S.parentOf a = pa2 at HPa HRR2
        clear h2 hk h1
        go_wp2_with fail
        refine HPa.out.mono ?_
        rintro _ w5 ⟨rfl, rfl⟩
        go_wp2_with fail
        go_roundg (m * 401 + r.length)
        case measure => have := HGK.out; have := HQL.out; omega
        case rel => exact ⟨m, pa2, _, _, r, d, rfl, hm, by have := HQL.out; omega, rfl, by rw [HQL.out], rfl, rfl, HRR2, HSL, HB3, HRb3, HNb3⟩
      have p2 : (XN.toList == [46, 46]) = false := by rw [HD2.out, decide_eq_false h2]
      have HGE := Lib.hid (HQ.out.get w4 a XN HB3.out)
      unfold RetQ at HGE
      obtain ⟨gv, hgv⟩ : ∃ gv, S.get a XN = gv := ⟨_, rfl⟩
      have HGV := Lib.hid hgv
      rw [hgv] at HGE
      obtain ⟨gi, ge⟩ := gv
      dsimp only at HGE
      by_cases h3 : ge = 0
      case neg =>
        have hr : R = (if ge = 2 ∧ lb = true then ((a, XN, 0), 2) else (wk.r0, ge)) := by
          rw [← HRX.out, w_err hk h2 h1 (show ((trS S).get a XN).2 ≠ 0 from by show (S.get a XN).2 ≠ 0; rw [hgv]; exact h3)]
          show (if (S.get a XN).2 = 2 ∧ nsB r = [] then ((a, XN, 0), 2) else (wk.r0, (S.get a XN).2)) = _
          rw [hgv]
          dsimp only
          by_cases e : ge = 2 ∧ nsB r = []
          · rw [if_pos e, if_pos ⟨e.1, HRN.out.1 e.2⟩]
          · rw [if_neg e, if_neg (fun k => e ⟨k.1, HRN.out.2 k.2⟩)]
        have q0 : (ge != 0) = true := by simpa using h3
        clear hgv h3 hk h1 h2
        by_cases hc : ge = 2 ∧ lb = true
        · rw [if_pos hc] at hr
          have HF := Lib.hid hr
          obtain ⟨rfl, rfl⟩ := hc
          clear hr q0
          go_wp2_with fail
          refine HGE.out.mono ?_
          rintro _ w5 ⟨rfl, rfl⟩
          obtain ⟨r0, r1, r2, rz⟩ := HRb3.out.facts
          have z0 := rz 0
          have z1 := rz 1
          have z2 := rz 2
          obtain ⟨n0, n1, n2, -⟩ := HNb3.out.facts
          have HS := Lib.hid (fun p q u => box_set3 (t := 36) (m := (0, 0)) (B := Rb) hRl HRb3.out HB3.out p q u)
          clear rz
          go_wp2_with fail
          obtain ⟨hx, hy⟩ := HS.out _ _ _
          refine bodyPost_ret (results_row_tmp rfl _ _ Rb _ _ rfl hx Tryz.underlying36 (by rfl) (by rfl)) rfl ?_
          exact ⟨by rw [HF.out]; rfl, hy⟩
        · rw [if_neg hc] at hr
          have HF := Lib.hid hr
          have hcc : ((ge == 2) = true ∧ lb = false) ∨ (ge == 2) = false := by
            by_cases e : ge = 2
            · left; refine ⟨by simpa using e, ?_⟩
              cases lb with
              | false => rfl
              | true => exact absurd ⟨e, rfl⟩ hc
            · right; simpa using e
          clear hr hc
          rcases hcc with ⟨q2, rfl⟩ | q2
          all_goals
            go_wp2_with fail
            refine HGE.out.mono ?_
            rintro _ w5 ⟨rfl, rfl⟩
            obtain ⟨r0, r1, r2, rz⟩ := HRb3.out.facts
            have z0 := rz 0
            have z1 := rz 1
            have z2 := rz 2
            obtain ⟨n0, n1, n2, -⟩ := HNb3.out.facts
            have HS := Lib.hid (fun p q u => box_set3 (t := 36) (m := (0, 0)) (B := Rb) hRl HRb3.out HB3.out p q u)
            clear rz
            go_wp2_with fail
            obtain ⟨hx, hy⟩ := HS.out _ _ _
            refine bodyPost_ret (results_row_tmp rfl _ _ Rb _ _ rfl hx Tryz.underlying36 (by rfl) (by rfl)) rfl ?_
            exact ⟨by rw [HF.out]; rfl, hy⟩
      subst h3
      have hge : ((trS S).get a XN).2 = 0 := by show (S.get a XN).2 = 0; rw [hgv]
      have hgi : ((trS S).get a XN).1 = gi := by show (S.get a XN).1 = gi; rw [hgv]
      have HKI := Lib.hid (HQ.out.kind w4 gi HB3.out)
      have HTG := Lib.hid (HQ.out.target w4 gi HB3.out)
      unfold RetQ at HKI HTG
      have HKG := Lib.hid (show (trS S).kind ((trS S).get a XN).1 = S.kindOf gi by rw [hgi]; rfl)
      have HTT := Lib.hid (show (trS S).target ((trS S).get a XN).1 = S.targetOf gi by rw [hgi]; rfl)
      obtain ⟨kg, hkg⟩ : ∃ kg, S.kindOf gi = kg := ⟨_, rfl⟩
      obtain ⟨tv, htv⟩ : ∃ tv, S.targetOf gi = tv := ⟨_, rfl⟩
      rw [hkg] at HKI HKG
      rw [htv] at HTG HTT
      obtain ⟨ts, te⟩ := tv
      dsimp only at HTG
      have HHK := Lib.hid hk
      have HH1 := Lib.hid h1
      have HH2 := Lib.hid h2
      have HHG := Lib.hid hge
      have HHI := Lib.hid hgi
      clear hgv hkg htv hk h1 h2 hge hgi
      go_wp2_with fail
      refine HGE.out.mono ?_
      rintro _ w5 ⟨rfl, rfl⟩
      go_wp2_with fail
      refine HKI.out.mono ?_
      rintro _ w5 ⟨rfl, rfl⟩
      by_cases hL : kg = 3 ∧ (lb = false ∨ fol = true ∨ d = true)
      · obtain ⟨rfl, hL2⟩ := hL
        have HLK := Lib.hid (show wk.Lnk (trS S) fol a XN (nsB r) d from ⟨HKG.out, hL2.imp (fun e e2 => by rw [HRN.out.1 e2] at e; cases e) id⟩)
        have h3c : lb = false ∨ (lb = true ∧ fol = true) ∨ (lb = true ∧ fol = false ∧ d = true) := by
          cases lb with
          | false => exact .inl rfl
          | true =>
            cases fol with
            | true => exact .inr (.inl ⟨rfl, rfl⟩)
            | false =>
              rcases hL2 with e | e | e
              · cases e
              · cases e
              · exact .inr (.inr ⟨rfl, rfl, e⟩)
        clear hL2
        by_cases hm0 : m = 0
        · have HF := Lib.hid (show R = (wk.r0, 40) by
            subst hm0
            rw [← HRX.out, w_loop HHK.out HH2.out HH1.out HHG.out HLK.out])
          have hgt : (40 : Int) < (40 : Int) - (m : Int) + 1 := by omega
          rcases h3c with rfl | ⟨rfl, rfl⟩ | ⟨rfl, rfl, rfl⟩
          all_goals
            obtain ⟨r0, r1, r2, rz⟩ := HRb3.out.facts
            have z0 := rz 0
            have z1 := rz 1
            have z2 := rz 2
            obtain ⟨n0, n1, n2, -⟩ := HNb3.out.facts
            have HS := Lib.hid (fun p q u => box_set3 (t := 36) (m := (0, 0)) (B := Rb) hRl HRb3.out HB3.out p q u)
            clear rz
            go_wp2_with fail
            obtain ⟨hx, hy⟩ := HS.out _ _ _
            refine bodyPost_ret (results_row_tmp rfl _ _ Rb _ _ rfl hx Tryz.underlying36 (by rfl) (by rfl)) rfl ?_
            exact ⟨by rw [HF.out]; rfl, hy⟩
        obtain ⟨k, hmk⟩ : ∃ k, m = k + 1 := ⟨m - 1, by omega⟩
        have hgt : ¬ (40 : Int) < (40 : Int) - (m : Int) + 1 := by omega
        have HMK := Lib.hid hmk
        have HW := Lib.hid (show R = if te ≠ 0 then (wk.r0, te) else if pa.perr ts.data.toList ≠ 0 then (wk.r0, pa.perr ts.data.toList) else if 400 < (pa.pnames ts.data.toList).length + q then (wk.r0, 36)
            else walkT (trS S) fol k (if wk.slash ts = true then 1 else a) (nsB (pa.pnames ts.data.toList ++ r)) (if lb = true then d || pa.pdirE ts.data.toList else d) by
          rw [← HRX.out]
          subst hmk
          rw [w_link HHK.out HH2.out HH1.out HHG.out HLK.out, HTT.out, nsB_pn]
          have e1 : (wk.pn ts).length = (pa.pnames ts.data.toList).length := by unfold wk.pn; simp
          have e2 : (if nsB r = [] then d || wk.pd ts else d) = (if lb = true then d || pa.pdirE ts.data.toList else d) := by
            by_cases e : nsB r = []
            · rw [if_pos e, if_pos (HRN.out.1 e)]; rfl
            · rw [if_neg e, if_neg (fun k => e (HRN.out.2 k))]
          rw [e1, nsB_len, HQL.out, e2]
          rfl)
        clear hmk hm0
        by_cases ht : te = 0
        case neg =>
          have HF := Lib.hid (show R = (wk.r0, te) by rw [HW.out, if_pos ht])
          have qt : (te != 0) = true := by simpa using ht
          clear ht
          rcases h3c with rfl | ⟨rfl, rfl⟩ | ⟨rfl, rfl, rfl⟩
          all_goals
            go_wp2_with fail
            refine HTG.out.mono ?_
            rintro _ w5 ⟨rfl, rfl⟩
            obtain ⟨r0, r1, r2, rz⟩ := HRb3.out.facts
            have z0 := rz 0
            have z1 := rz 1
            have z2 := rz 2
            obtain ⟨n0, n1, n2, -⟩ := HNb3.out.facts
            have HS := Lib.hid (fun p q u => box_set3 (t := 36) (m := (0, 0)) (B := Rb) hRl HRb3.out HB3.out p q u)
            clear rz
            go_wp2_with fail
            obtain ⟨hx, hy⟩ := HS.out _ _ _
            refine bodyPost_ret (results_row_tmp rfl _ _ Rb _ _ rfl hx Tryz.underlying36 (by rfl) (by rfl)) rfl ?_
            exact ⟨by rw [HF.out]; rfl, hy⟩
        subst ht
        have HPR := Lib.hid (rparse_any ts w5)
        unfold ParseE at HPR
        obtain ⟨PN, hPN⟩ : ∃ PN, pa.pnames ts.data.toList = PN := ⟨_, rfl⟩
        obtain ⟨pdv, hpd⟩ : ∃ pdv, pa.pdirE ts.data.toList = pdv := ⟨_, rfl⟩
        obtain ⟨pr, hpr⟩ : ∃ pr, pa.perr ts.data.toList = pr := ⟨_, rfl⟩
        have HPRR := Lib.hid hpr
        rw [hPN, hpd, hpr] at HPR HW
        have hpl : PN.length ≤ 40 := by rw [← hPN]; exact pa.pnames_le _
        clear hPN hpd hpr
        by_cases hp0 : pr = 0
        case neg =>
          have HF := Lib.hid (show R = (wk.r0, pr) by rw [HW.out, if_neg (wk.nn rfl), if_pos hp0])
          have qp : (pr != 0) = true := by simpa using hp0
          clear hp0
          rcases h3c with rfl | ⟨rfl, rfl⟩ | ⟨rfl, rfl, rfl⟩
          all_goals
            go_wp2_with fail
            refine HTG.out.mono ?_
            rintro _ w5 ⟨rfl, rfl⟩
            go_wp2_with fail
            refine HPR.out.mono ?_
            rintro _ w6 ⟨A6, c6, rfl, ho6, hb6⟩
            obtain ⟨W7, hW7⟩ : ∃ W7, w6.alloc (.cells #[.slice A6 PN.length c6, .bool pdv] 25) = W7 := ⟨_, rfl⟩
            have HB67 := Lib.hid (show Below w5.heap.size w5 W7 by rw [← hW7]; exact dn.below_step hb6 (dn.below_alloc w6 _))
            have HB7 := Lib.hid (dn.below_step HB3.out HB67.out)
            have HRb7 := Lib.hid (HRb3.out.below HB67.out)
            have HNb7 := Lib.hid (HNb3.out.below HB67.out)
            clear ho6 hb6
            obtain ⟨r0, r1, r2, rz⟩ := HRb7.out.facts
            have z0 := rz 0
            have z1 := rz 1
            have z2 := rz 2
            obtain ⟨n0, n1, n2, -⟩ := HNb7.out.facts
            have HS := Lib.hid (fun p q u => box_set3 (t := 36) (m := (0, 0)) (B := Rb) hRl HRb7.out HB7.out p q u)
            clear rz
            go_wp2_with fail
            obtain ⟨hx, hy⟩ := HS.out _ _ _
            refine bodyPost_ret (results_row_tmp rfl _ _ Rb _ _ rfl hx Tryz.underlying36 (by rfl) (by rfl)) rfl ?_
            exact ⟨by rw [HF.out]; rfl, hy⟩
        subst hp0
        have hs0 : 0 < ts.size := by
          have := (pa.perr_zero.1 HPRR.out).1
          rw [Lib.size_eq]
          exact List.length_pos_iff.2 this
        by_cases hbig : 400 < PN.length + q
        · have HF := Lib.hid (show R = (wk.r0, 36) by rw [HW.out, if_neg (wk.nn rfl), if_neg (wk.nn rfl), if_pos hbig])
          have hbi : (400 : Int) < (PN.length : Int) + (q : Int) := by omega
          clear hbig
          rcases h3c with rfl | ⟨rfl, rfl⟩ | ⟨rfl, rfl, rfl⟩
          all_goals
            go_wp2_with fail
            refine HTG.out.mono ?_
            rintro _ w5 ⟨rfl, rfl⟩
            go_wp2_with fail
            refine HPR.out.mono ?_
            rintro _ w6 ⟨A6, c6, rfl, ho6, hb6⟩
            obtain ⟨W7, hW7⟩ : ∃ W7, w6.alloc (.cells #[.slice A6 PN.length c6, .bool pdv] 25) = W7 := ⟨_, rfl⟩
            have HB67 := Lib.hid (show Below w5.heap.size w5 W7 by rw [← hW7]; exact dn.below_step hb6 (dn.below_alloc w6 _))
            have HB7 := Lib.hid (dn.below_step HB3.out HB67.out)
            have HRb7 := Lib.hid (HRb3.out.below HB67.out)
            have HNb7 := Lib.hid (HNb3.out.below HB67.out)
            obtain ⟨G7, hG7⟩ : ∃ G, w6.heap.size = G := ⟨_, rfl⟩
            have hr7 : W7.heap[G7]? = some (.cells #[.slice A6 PN.length c6, .bool pdv] 25 (0, 0)) := by rw [← hW7, ← hG7]; exact heap_alloc_new w6 _
            have u0 : W7.cell? ⟨G7, 0, none⟩ = some (.slice A6 PN.length c6) := by rw [cell_row hr7]; rfl
            clear hr7
            clear ho6 hb6
            obtain ⟨r0, r1, r2, rz⟩ := HRb7.out.facts
            have z0 := rz 0
            have z1 := rz 1
            have z2 := rz 2
            obtain ⟨n0, n1, n2, -⟩ := HNb7.out.facts
            have HS := Lib.hid (fun p q u => box_set3 (t := 36) (m := (0, 0)) (B := Rb) hRl HRb7.out HB7.out p q u)
            clear rz
            go_wp2_with fail
            obtain ⟨hx, hy⟩ := HS.out _ _ _
            refine bodyPost_ret (results_row_tmp rfl _ _ Rb _ _ rfl hx Tryz.underlying36 (by rfl) (by rfl)) rfl ?_
            exact ⟨by rw [HF.out]; rfl, hy⟩
        have HRR2 := Lib.hid (show walkT (trS S) fol k (if wk.slash ts = true then 1 else a) (nsB (PN ++ r)) (if lb = true then d || pdv else d) = R by rw [HW.out, if_neg (wk.nn rfl), if_neg (wk.nn rfl), if_neg hbig])
        have hbi : ¬ (400 : Int) < (PN.length : Int) + (q : Int) := by omega
        have HBG := Lib.hid hbig
        have hsl := slash_at ts hs0
        have hsc : (wk.slash ts = true ∧ (((ts[0]).toNat : Int) == 47) = true) ∨ (wk.slash ts = false ∧ (((ts[0]).toNat : Int) == 47) = false) := by
          by_cases e : ts[0] = 47
          · left; exact ⟨by rw [hsl, decide_eq_true e], by rw [e]; rfl⟩
          · right
            refine ⟨by rw [hsl, decide_eq_false e], ?_⟩
            rw [beq_eq_false_iff_ne]
            intro h
            exact e (UInt8.toNat_inj.1 (by have : ts[0].toNat = 47 := by omega
                                           simpa using this))
        clear hbig hsl HW
        rcases hsc with ⟨s1, s2⟩ | ⟨s1, s2⟩
        all_goals
          rw [s1] at HRR2
          clear s1
          obtain ⟨pdq, hpq⟩ : ∃ p, pdv = p := ⟨_, rfl⟩
          rw [hpq] at HPR
          have HPQ := Lib.hid hpq
          clear hpq
          cases pdv
          · rcases h3c with rfl | ⟨rfl, rfl⟩ | ⟨rfl, rfl, rfl⟩
            all_goals
              go_wp2_with fail
              refine HTG.out.mono ?_
              rintro _ w5 ⟨rfl, rfl⟩
              go_wp2_with fail
              refine HPR.out.mono ?_
              rintro _ w6 ⟨A6, c6, rfl, ho6, hb6⟩
              obtain ⟨W7, hW7⟩ : ∃ W7, w6.alloc (.cells #[.slice A6 PN.length c6, .bool pdq] 25) = W7 := ⟨_, rfl⟩
              have hb67 : Below w6.heap.size w6 W7 := by rw [← hW7]; exact dn.below_alloc w6 _
              obtain ⟨G7, hG7⟩ : ∃ G, w6.heap.size = G := ⟨_, rfl⟩
              have hr7 : W7.heap[G7]? = some (.cells #[.slice A6 PN.length c6, .bool pdq] 25 (0, 0)) := by rw [← hW7, ← hG7]; exact heap_alloc_new w6 _
              have v0 : W7.cell? ⟨G7, 0, none⟩ = some (.slice A6 PN.length c6) := by rw [cell_row hr7]; rfl
              have v1 : W7.cell? ⟨G7, 1, none⟩ = some (.bool false) := by rw [cell_row hr7, HPQ.out]; rfl
              have u0 : (W7.alloc (.cells #[] 9)).cell? ⟨G7, 0, none⟩ = some (.slice A6 PN.length c6) := by rw [(dn.below_alloc W7 (.cells #[] 9)).cell (p := ⟨G7, 0, none⟩) (World.block_lt_of_cell? _ _ (show W7.cell? ⟨G7, 0, none⟩ = some (.slice A6 PN.length c6) by rw [cell_row hr7]; rfl)), cell_row hr7]; rfl
              have HB67 := Lib.hid (dn.below_step hb6 hb67)
              have HSP := Lib.hid ((SL.own ho6).below (hb67.trans (Below.refl _ _)))
              have HPA := Lib.hid ((HSP.out.st).below (dn.below_alloc W7 (.cells #[] 9)))
              have HSR := Lib.hid (HSL.out.below HB67.out)
              clear ho6 hb6 hb67 hr7
              go_wp2_with (first
                | (at_builtin; refine pa.wpList_append_strs _ rfl (.tmp 127) (.tmp 129) rfl W7.heap.size _ [] rfl (pa.strs_lit W7 W7.heap.size (Nat.le_refl _)) A6 PN.length c6 W7.heap.size PN rfl rfl HPA.out (by simp; omega) (by simp) ?_; intro v8 w8 hown8 hg8; obtain ⟨A8, c8, rfl, ho8, hb8⟩ := SL.made hown8 hg8; have HO8 := Lib.hid ho8; have HSR8 := Lib.hid ((HSR.out.below hb8).st); have HB8 := Lib.hid (dn.below_step HB67.out hb8); have HW7 := Lib.hid hb8.size)
                | (at_builtin; refine pa.wpList_append_strs _ rfl (.tmp 130) (.tmp 131) rfl W7.heap.size _ PN rfl HO8.out A3 q c3 w8.heap.size r rfl HQL.out.symm HSR8.out (by omega) HW7.out ?_; intro v9 w9 hown9 hg9; have HWN := Lib.hid (own_form hown9); have HBN := Lib.hid (HB8.out.grown hg9 (by have := HB67.out.size; have := HW7.out; omega) (fun k hk => by have := (World.ownsRow.lt HO8.out k hk).1; have := HB67.out.size; omega)); clear hown9 hg9))
              obtain ⟨A9, c9, rfl, ho9, -⟩ := HWN.out
              have hb9 := HBN.out
              have HSL9 := Lib.hid (SL.own ho9)
              have HB9 := Lib.hid (dn.below_step HB3.out hb9)
              have HRb9 := Lib.hid (HRb3.out.below hb9)
              have HNb9 := Lib.hid (HNb3.out.below hb9)
              clear ho9 hb9
              go_wp2_with fail
              go_roundg (k * 401 + (PN ++ r).length)
              case measure => have := HGK.out; have := HQL.out; have := HMK.out; have := HBG.out; rw [List.length_append]; omega
              case rel => exact ⟨k, _, A9, c9, PN ++ r, _, rfl, by have := HMK.out; omega, by have := HBG.out; have := HQL.out; rw [List.length_append]; omega, rfl, by first | rfl | simp, rfl, by have := HMK.out; first | go_num | (congr 1; omega), Lib.hid (by simpa using HRR2.out), HSL9, HB9, HRb9, HNb9⟩
          · rcases h3c with rfl | ⟨rfl, rfl⟩ | ⟨rfl, rfl, rfl⟩
            all_goals
              go_wp2_with fail
              refine HTG.out.mono ?_
              rintro _ w5 ⟨rfl, rfl⟩
              go_wp2_with fail
              refine HPR.out.mono ?_
              rintro _ w6 ⟨A6, c6, rfl, ho6, hb6⟩
              obtain ⟨W7, hW7⟩ : ∃ W7, w6.alloc (.cells #[.slice A6 PN.length c6, .bool pdq] 25) = W7 := ⟨_, rfl⟩
              have hb67 : Below w6.heap.size w6 W7 := by rw [← hW7]; exact dn.below_alloc w6 _
              obtain ⟨G7, hG7⟩ : ∃ G, w6.heap.size = G := ⟨_, rfl⟩
              have hr7 : W7.heap[G7]? = some (.cells #[.slice A6 PN.length c6, .bool pdq] 25 (0, 0)) := by rw [← hW7, ← hG7]; exact heap_alloc_new w6 _
              have v0 : W7.cell? ⟨G7, 0, none⟩ = some (.slice A6 PN.length c6) := by rw [cell_row hr7]; rfl
              have v1 : W7.cell? ⟨G7, 1, none⟩ = some (.bool true) := by rw [cell_row hr7, HPQ.out]; rfl
              have u0 : (W7.alloc (.cells #[] 9)).cell? ⟨G7, 0, none⟩ = some (.slice A6 PN.length c6) := by rw [(dn.below_alloc W7 (.cells #[] 9)).cell (p := ⟨G7, 0, none⟩) (World.block_lt_of_cell? _ _ (show W7.cell? ⟨G7, 0, none⟩ = some (.slice A6 PN.length c6) by rw [cell_row hr7]; rfl)), cell_row hr7]; rfl
              have HB67 := Lib.hid (dn.below_step hb6 hb67)
              have HSP := Lib.hid ((SL.own ho6).below (hb67.trans (Below.refl _ _)))
              have HPA := Lib.hid ((HSP.out.st).below (dn.below_alloc W7 (.cells #[] 9)))
              have HSR := Lib.hid (HSL.out.below HB67.out)
              clear ho6 hb6 hb67 hr7
              go_wp2_with (first
                | (at_builtin; refine pa.wpList_append_strs _ rfl (.tmp 127) (.tmp 129) rfl W7.heap.size _ [] rfl (pa.strs_lit W7 W7.heap.size (Nat.le_refl _)) A6 PN.length c6 W7.heap.size PN rfl rfl HPA.out (by simp; omega) (by simp) ?_; intro v8 w8 hown8 hg8; obtain ⟨A8, c8, rfl, ho8, hb8⟩ := SL.made hown8 hg8; have HO8 := Lib.hid ho8; have HSR8 := Lib.hid ((HSR.out.below hb8).st); have HB8 := Lib.hid (dn.below_step HB67.out hb8); have HW7 := Lib.hid hb8.size)
                | (at_builtin; refine pa.wpList_append_strs _ rfl (.tmp 130) (.tmp 131) rfl W7.heap.size _ PN rfl HO8.out A3 q c3 w8.heap.size r rfl HQL.out.symm HSR8.out (by omega) HW7.out ?_; intro v9 w9 hown9 hg9; have HWN := Lib.hid (own_form hown9); have HBN := Lib.hid (HB8.out.grown hg9 (by have := HB67.out.size; have := HW7.out; omega) (fun k hk => by have := (World.ownsRow.lt HO8.out k hk).1; have := HB67.out.size; omega)); clear hown9 hg9))
              obtain ⟨A9, c9, rfl, ho9, -⟩ := HWN.out
              have hb9 := HBN.out
              have HSL9 := Lib.hid (SL.own ho9)
              have HB9 := Lib.hid (dn.below_step HB3.out hb9)
              have HRb9 := Lib.hid (HRb3.out.below hb9)
              have HNb9 := Lib.hid (HNb3.out.below hb9)
              clear ho9 hb9
              go_wp2_with fail
              go_roundg (k * 401 + (PN ++ r).length)
              case measure => have := HGK.out; have := HQL.out; have := HMK.out; have := HBG.out; rw [List.length_append]; omega
              case rel => exact ⟨k, _, A9, c9, PN ++ r, _, rfl, by have := HMK.out; omega, by have := HBG.out; have := HQL.out; rw [List.length_append]; omega, rfl, by first | rfl | simp, rfl, by have := HMK.out; first | go_num | (congr 1; omega), Lib.hid (by simpa using HRR2.out), HSL9, HB9, HRb9, HNb9⟩
      · have HNL := Lib.hid (show ¬ wk.Lnk (trS S) fol a XN (nsB r) d by
          rintro ⟨e1, e2⟩
          rw [HKG.out] at e1
          refine hL ⟨e1, e2.imp (fun e => ?_) id⟩
          cases lb with
          | false => rfl
          | true => exact absurd (HRN.out.2 rfl) e)
        have hN : (kg == 3) = false ∨ ((kg == 3) = true ∧ lb = true ∧ fol = false ∧ d = false) := by
          by_cases e : kg = 3
          · right
            refine ⟨by simpa using e, ?_, ?_, ?_⟩
            · cases lb with
              | true => rfl
              | false => exact absurd ⟨e, .inl rfl⟩ hL
            · cases fol with
              | false => rfl
              | true => exact absurd ⟨e, .inr (.inl rfl)⟩ hL
            · cases d with
              | false => rfl
              | true => exact absurd ⟨e, .inr (.inr rfl)⟩ hL
          · left; simpa using e
        clear hL
        cases lb with
        | false =>
          have hrn : nsB r ≠ [] := fun e => by have := HRN.out.1 e; cases this
          have HRR2 := Lib.hid (show walkT (trS S) fol m gi (nsB r) d = R by rw [← HRX.out, w_on HHK.out HH2.out HH1.out HHG.out HNL.out hrn, HHI.out])
          have hN1 : (kg == 3) = false := by
            rcases hN with e | ⟨_, e, _⟩
            · exact e
            · cases e
          clear hN hrn
          go_wp2_with fail
          go_roundg (m * 401 + r.length)
          case measure => have := HGK.out; have := HQL.out; omega
          case rel => exact ⟨m, gi, _, _, r, d, rfl, hm, by have := HQL.out; omega, rfl, by rw [HQL.out], rfl, rfl, HRR2, HSL, HB3, HRb3, HNb3⟩
        | true =>
          have hrn := HRN.out.2 rfl
          have hr : R = (if d = true ∧ kg ≠ 2 then (wk.r0, 20) else ((a, XN, gi), 0)) := by
            have hnl := HNL.out
            rw [← HRX.out]
            rw [hrn] at hnl ⊢
            rw [w_last HHK.out HH2.out HH1.out HHG.out hnl, HKG.out, HHI.out]
          clear hrn
          by_cases hd2 : d = true ∧ kg ≠ 2
          · rw [if_pos hd2] at hr
            have HF := Lib.hid hr
            obtain ⟨rfl, hk2⟩ := hd2
            have qk2 : (kg != 2) = true := by simpa using hk2
            have hN1 : (kg == 3) = false := by
              rcases hN with e | ⟨_, _, _, e⟩
              · exact e
              · cases e
            clear hr hk2 hN
            go_wp2_with fail
            refine HKI.out.mono ?_
            rintro _ w5 ⟨rfl, rfl⟩
            obtain ⟨r0, r1, r2, rz⟩ := HRb3.out.facts
            have z0 := rz 0
            have z1 := rz 1
            have z2 := rz 2
            obtain ⟨n0, n1, n2, -⟩ := HNb3.out.facts
            have HS := Lib.hid (fun p q u => box_set3 (t := 36) (m := (0, 0)) (B := Rb) hRl HRb3.out HB3.out p q u)
            clear rz
            go_wp2_with fail
            obtain ⟨hx, hy⟩ := HS.out _ _ _
            refine bodyPost_ret (results_row_tmp rfl _ _ Rb _ _ rfl hx Tryz.underlying36 (by rfl) (by rfl)) rfl ?_
            exact ⟨by rw [HF.out]; rfl, hy⟩
          · rw [if_neg hd2] at hr
            have HF := Lib.hid hr
            have hc : d = false ∨ (d = true ∧ (kg != 2) = false) := by
              cases d with
              | false => exact .inl rfl
              | true => right; exact ⟨rfl, by simpa using fun e => hd2 ⟨rfl, e⟩⟩
            clear hr hd2
            rcases hc with rfl | ⟨rfl, q2⟩
            · rcases hN with q3 | ⟨q3, -, rfl, -⟩
              all_goals
                obtain ⟨r0, r1, r2, rz⟩ := HRb3.out.facts
                have z0 := rz 0
                have z1 := rz 1
                have z2 := rz 2
                obtain ⟨n0, n1, n2, -⟩ := HNb3.out.facts
                have HS := Lib.hid (fun p q u => box_set3 (t := 36) (m := (0, 0)) (B := Rb) hRl HRb3.out HB3.out p q u)
                clear rz
                go_wp2_with fail
                obtain ⟨hx, hy⟩ := HS.out _ _ _
                refine bodyPost_ret (results_row_tmp rfl _ _ Rb _ _ rfl hx Tryz.underlying36 (by rfl) (by rfl)) rfl ?_
                exact ⟨by rw [HF.out]; rfl, hy⟩
            · have q3 : (kg == 3) = false := by
                rcases hN with e | ⟨_, _, _, e⟩
                · exact e
                · cases e
              clear hN
              go_wp2_with fail
              refine HKI.out.mono ?_
              rintro _ w5 ⟨rfl, rfl⟩
              obtain ⟨r0, r1, r2, rz⟩ := HRb3.out.facts
              have z0 := rz 0
              have z1 := rz 1
              have z2 := rz 2
              obtain ⟨n0, n1, n2, -⟩ := HNb3.out.facts
              have HS := Lib.hid (fun p q u => box_set3 (t := 36) (m := (0, 0)) (B := Rb) hRl HRb3.out HB3.out p q u)
              clear rz
              go_wp2_with fail
              obtain ⟨hx, hy⟩ := HS.out _ _ _
              refine bodyPost_ret (results_row_tmp rfl _ _ Rb _ _ rfl hx Tryz.underlying36 (by rfl) (by rfl)) rfl ?_
              exact ⟨by rw [HF.out]; rfl, hy⟩
end Go.Proofs.YtlnlehoekchdeaaGreat.cb
end
