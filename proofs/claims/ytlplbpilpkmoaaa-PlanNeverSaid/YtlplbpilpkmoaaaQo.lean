/- The code's 'Order'. -/
import Derived.Test.YtlplbpilpkmoaaaQd
namespace Go.Proofs.Ytlplbpilpkmoaaa.pl
open Go.RowKit
set_option linter.unusedVariables false
set_option linter.unusedSimpArgs false

theorem Fr.bel {B : Nat} {w0 w w' : World} {Q : Nat} {o : Option Nat} (hb : Below B w0 w) (hf : hp.Fr w w' Q o) (hB : B ≤ w.heap.size) (hQ : B ≤ Q) (ho : ∀ k, o = some k → B ≤ k) : Below B w0 w' :=
  hb.trans ⟨hf.os, hf.tape, hf.output, hf.size, fun k hk => hf.block k (Nat.lt_of_lt_of_le hk hB) (by omega) (fun e => by have := ho k e; omega)⟩
theorem Qu_lo {w : World} {Q lo c : Nat} {o : Option Nat} {xs : Array Wt} (h : hp.Qu w Q lo o c xs) : ∀ k, o = some k → lo ≤ k ∧ k < w.heap.size ∧ k ≠ Q := fun k e => by
  subst e; exact ⟨h.row.1, h.row.2.2.lt, fun e => h.row.2.1 e.symm⟩
theorem OW.keep {w w' : World} {lo E : Nat} {v : Value} {xs : List Wt} (h : OW w lo E v xs) (hb : ∀ g, v.ownBlock = some g → w'.heap[g]? = w.heap[g]?) : OW w' lo E v xs := by
  unfold OW at h ⊢
  refine ⟨h.1, h.2.imp id fun ⟨g, c, cur, h1, h2, h3, r⟩ => ⟨g, c, cur, h1, h2, (hb g (by rw [h1]; rfl)).trans h3, r⟩⟩
theorem Qu_keep {w w' : World} {Q lo c : Nat} {o : Option Nat} {xs : Array Wt} (h : hp.Qu w Q lo o c xs) (hq : w'.heap[Q]? = w.heap[Q]?) (hb : ∀ k, o = some k → w'.heap[k]? = w.heap[k]?) : hp.Qu w' Q lo o c xs := by
  refine ⟨(World.cell?_of_block (a := ⟨Q, 0, none⟩) hq).trans h.q0, (World.frozen?_of_block (a := ⟨Q, 0, none⟩) hq).trans h.f0, ?_⟩
  cases o with
  | none => exact h.row
  | some G => exact ⟨h.row.1, h.row.2.1, h.row.2.2.of_block (hb G rfl)⟩
theorem OW.olt {w : World} {lo E : Nat} {v : Value} {xs : List Wt} (h : OW w lo E v xs) {g : Nat} (e : v.ownBlock = some g) : lo ≤ g ∧ g < w.heap.size := by unfold OW at h; exact h.lt g e
theorem zero3 (w : World) : (zeroValue 3).run Try.prog w = .ok (.int .i64 0) w := by kernel_rfl
/-- The heap's box, its row, the map and the row of the result lie apart. -/
structure Dj (Q M : Nat) (o : Option Nat) (v : Value) : Prop where
  qm : Q ≠ M
  om : o ≠ some M
  vq : v.ownBlock ≠ some Q
  vm : v.ownBlock ≠ some M
  vo : ∀ B, v.ownBlock = some B → o ≠ some B
structure HP (l : List Wt) (xs : Array Wt) (i : Nat) : Prop where
  ok : hp.Ok xs xs.size 0
  perm : xs.toList.Perm (l.take i)
theorem HP.size {l : List Wt} {xs : Array Wt} {i : Nat} (h : HP l xs i) (hi : i ≤ l.length) : xs.size = i := by
  have := h.perm.length_eq
  rw [List.length_take] at this; simp at this; omega
theorem hp_start (l : List Wt) : HP l #[] 0 := ⟨fun k hk => by simp at hk, by simp⟩
theorem HP.push {l : List Wt} {xs : Array Wt} {i : Nat} (h : HP l xs i) (hi : i < l.length) : HP l (hp.up (xs.push (gw l i)) i) (i + 1) := by
  obtain ⟨h1, h2, h3⟩ := heap_push h.ok (h.size (by omega)).symm (gw l i)
  refine ⟨h1, h2.trans ?_⟩
  rw [take_gw hi]
  exact h.perm.append_right _
theorem info_want : (Try.prog.info? 39).map (fun i => (i.zero, i.size, i.bytes)) = some (some (Wv ⟨0, 0, false⟩), 3, 24) := by kernel_rfl
theorem ta_want (k t : Int) (m : Bool) (w : World) : Sem.run Try.prog (Instr.typeAssert (.iface 39 (Wv ⟨k, t, m⟩)) 20 39 false) w = .ok (Wv ⟨k, t, m⟩) w := by kernel_rfl
def OrdE (w : World) (l : List Wt) (e : Ending) (w' : World) : Prop := ∃ v o, e = .returned v ∧ IsOrd l o ∧ OW w' w.heap.size 39 v o ∧ Below w.heap.size w w'

set_option maxRecDepth 100000 in
set_option maxHeartbeats 4000000 in
theorem order_any {w : World} {A1 : Option Addr} {l : List Wt} {c1 : Nat} (h1 : Wan w w.heap.size A1 l) (hw : ∀ x ∈ l, sc.Wf x.n) (l1 : l.length ≤ 10000) :
    Calls Try.prog 10 #[.slice A1 l.length c1] w (OrdE w l) := by
  have H1 := Lib.hid h1
  have HWF := Lib.hid hw
  clear h1 hw
  obtain ⟨n, hn⟩ : ∃ n, l.length = n := ⟨_, rfl⟩
  rw [hn] at l1 ⊢
  have HN := Lib.hid hn
  obtain ⟨i0, hi, hz0, hz1, hz2⟩ := info_parts info_want
  have HI := Lib.hid hi
  have HZ := Lib.hid (show i0.zero = some (Wv ⟨0, 0, false⟩) ∧ i0.size = 3 ∧ i0.bytes = 24 from ⟨hz0, hz1, hz2⟩)
  clear hn hi hz0 hz1 hz2
  unfold OrdE
  go_enter Try.func10, Try.ntmps10
  go_wp2_with fail
  go_loopg [13] n (fun gk u13 wx => ∃ (i : Nat) (o : Option Nat) (cc : Nat) (xs : Array Wt), u13 = .int .i64 i ∧ gk + i = n ∧ Hid (hp.Qu wx w.heap.size w.heap.size o cc xs) ∧ Hid (HP l xs i) ∧ Hid (Below w.heap.size w wx))
  case atStart =>
    refine ⟨0, none, 0, #[], rfl, by omega, Lib.hid ⟨?_, ?_, rfl, rfl⟩, Lib.hid (hp_start l), Lib.hid ((Below.refl _ _).alloc (Nat.le_refl _) _)⟩
    · exact World.cell?_alloc_new _ _ _ _
    · simp
  case round =>
    obtain ⟨i, o, cc, xs, rfl, hg, HQ, HH, HB⟩ := hrel
    obtain ⟨gJ, hJ⟩ : ∃ g, gk = g := ⟨_, rfl⟩
    by_cases hi : i < n
    · have hi2 : (i : Int) < (n : Int) := by omega
      obtain ⟨g1, o1, rfl, hg1, x1, x2, x3⟩ := (H1.out.below HB.out) i (by rw [HN.out]; exact hi)
      have HPU := Lib.hid (HH.out.push (by rw [HN.out]; exact hi))
      have HSZ := Lib.hid (show i = xs.size from (HH.out.size (by rw [HN.out]; omega)).symm)
      have HC := Lib.hid (fun W (hb : Below wr.heap.size wr W) => hp.hpush_any w.heap.size w.heap.size cc i o xs (gw l i) W (Nat.le_trans HB.out.size hb.size) HSZ.out (by omega) (HQ.out.below hb))
      obtain ⟨y, hy⟩ : ∃ y, gw l i = y := ⟨_, rfl⟩
      rw [hy] at x1 x2 x3 HC HPU
      obtain ⟨yd, yn, yw⟩ := y
      dsimp only at x1 x2 x3
      clear hy
      go_wp2_with fail
      refine (HC.out _ (hp.below_alloc _ _)).mono ?_
      rintro _ w2 ⟨rfl, G, c2, hq2, ho2, hf2⟩
      have HQ2 := Lib.hid hq2
      have HB2 := Lib.hid (Fr.bel (HB.out.alloc HB.out.size _) hf2 (by rw [World.size_alloc]; have := HB.out.size; omega) (Nat.le_refl _) (fun k e => (Qu_lo HQ.out k e).1))
      clear hq2 ho2 hf2 HC
      go_wp2_with fail
      go_roundg (gJ - 1)
      case measure => omega
      case rel => exact ⟨i + 1, some G, c2, _, by go_num, by omega, HQ2, HPU, HB2⟩
    · have hin : i = n := by omega
      have HOD := Lib.hid (show Od l xs [] (fun _ => none) from Od.start HH.out.ok (by have := HH.out.perm; rw [hin, ← HN.out, List.take_length] at this; exact this))
      have HXN := Lib.hid (show xs.size = n from by rw [HH.out.size (by rw [HN.out]; omega)]; exact hin)
      obtain ⟨m, hm⟩ : ∃ m, wr.heap.size = m := ⟨_, rfl⟩
      have HM := Lib.hid hm
      have HSZ := Lib.hid HB.out.size
      have hlm : w.heap.size ≤ m := by rw [← hm]; exact HB.out.size
      have HLM := Lib.hid (show w.heap.size < m from by rw [← hm]; exact HQ.out.lt)
      have hmm := @run_makeMap Try.prog 61 wr
      clear hin HH
      go_wp2_with fail
      clear hm hmm
      go_loopg [6] n (fun gk u6 wx => ∃ (o : Option Nat) (cc : Nat) (xs : Array Wt) (ord : List Wt) (f : Int → Option Value) (N S : Nat), gk = xs.size ∧ Hid (hp.Qu wx w.heap.size w.heap.size o cc xs) ∧ Hid (OW wx w.heap.size 39 u6 ord) ∧ Hid (sc.MapV wx m N S f) ∧ Hid (N + xs.size ≤ n) ∧ Hid (Od l xs ord f) ∧ Hid (Dj w.heap.size m o u6) ∧ Hid (Below w.heap.size w wx))
      case atStart =>
        refine ⟨o, cc, xs, [], fun _ => none, 0, 0, HXN.out.symm, Lib.hid (HQ.out.below (hp.below_alloc _ _)), Lib.hid (OW.nil _ _ _), Lib.hid ?_, Lib.hid (by rw [HXN.out]; omega), HOD, Lib.hid ⟨?_, ?_, ?_, ?_, ?_⟩, Lib.hid (HB.out.alloc HSZ.out _)⟩
        · rw [← HM.out]; exact sc.MapV.made wr
        · have := HLM.out; omega
        · intro e; have := (Qu_lo HQ.out m e).2.1; have := HM.out; omega
        · simp [Value.ownBlock]
        · simp [Value.ownBlock]
        · intro B e; simp [Value.ownBlock] at e
      case round =>
        clear HQ HB HOD HXN
        obtain ⟨o, cc, xs, ord, f, N, S, hgk, HQ, HO, HMV, HNN, HOD, HD, HB⟩ := hrel
        obtain ⟨gJ, hJ⟩ : ∃ g, gk = g := ⟨_, rfl⟩
        rcases Nat.eq_zero_or_pos xs.size with h0 | h0
        · have q0 := HQ.out.q0
          rw [h0] at q0
          have HE := Lib.hid (HOD.out.ends h0)
          clear h0
          go_wp2_with fail
          go_ret
          exact ⟨_, _, rfl, HE.out, HO.out, HB.out⟩
        · cases o with
          | none => exact absurd HQ.out.row.1 (by omega)
          | some G =>
            obtain ⟨q, hq⟩ : ∃ q, xs.size = q + 1 := ⟨xs.size - 1, by omega⟩
            have q0 := HQ.out.q0
            rw [hq] at q0 hgk
            obtain ⟨zs, hzs⟩ : ∃ zs, hp.down (hp.swp xs 0 q) 0 q = zs := ⟨_, rfl⟩
            have hq9 : q ≤ 10000 := by have := HNN.out; omega
            have HC := Lib.hid (hp.hpop_any w.heap.size w.heap.size cc q G xs wr hq (by omega) HQ.out)
            have HPS := Lib.hid (heap_pop HOD.out.ok hq hzs)
            have HNEW := Lib.hid (fun hf => HOD.out.new hq hzs hf)
            have HOLD := Lib.hid (fun j hj hn => HOD.out.old hq hzs (j := j) hj hn)
            have HWX := Lib.hid (show sc.Wf (hp.g zs q).n from HWF.out _ (HOD.out.mem (HPS.out.2.2.1.mem_iff.1 (by simp))))
            rw [hzs] at HC
            have HQQ := Lib.hid hq
            obtain ⟨x, hx⟩ : ∃ x, hp.g zs q = x := ⟨_, rfl⟩
            rw [hx] at HC HPS HNEW HOLD HWX
            obtain ⟨zp, hzp⟩ : ∃ zp, zs.pop = zp := ⟨_, rfl⟩
            rw [hzp] at HC HPS HNEW HOLD
            obtain ⟨xd, xn, xw⟩ := x
            have ta := hp.ta_run xd xn xw
            have hq1 : ((q + 1 : Nat) : Int) > 0 := by omega
            clear hzs hq hx hzp h0
            go_wp2_with fail
            refine HC.out.mono ?_
            rintro _ w2 ⟨rfl, hq2, hf2⟩
            have hsz2 := hf2.size
            have ho2 := HO.out.keep (w' := w2) fun g e => hf2.block g (HO.out.olt e).2 (fun e2 => HD.out.vq (e2 ▸ e)) (HD.out.vo g e)
            have hm2 := HMV.out.of_block (hf2.block m HMV.out.lt (Ne.symm HD.out.qm) HD.out.om)
            have hb2 := Fr.bel HB.out hf2 HB.out.size (Nat.le_refl _) (fun k e => (Qu_lo HQ.out k e).1)
            have hal := hp.below_alloc w2 (.cells #[.int .i64 xd, .int .i64 xn, .bool xw] 39)
            have HQ3 := Lib.hid (hq2.below hal)
            have HO3 := Lib.hid (show OW (w2.alloc (.cells #[.int .i64 xd, .int .i64 xn, .bool xw] 39)) w.heap.size 39 u6 ord from by unfold OW at ho2 ⊢; exact ho2.alloc _)
            have HM3 := Lib.hid (hm2.of_block (hal.block m hm2.lt))
            have HB3 := Lib.hid (hb2.alloc hb2.size (.cells #[.int .i64 xd, .int .i64 xn, .bool xw] 39))
            have HS2 := Lib.hid hb2.size
            have HMLT := Lib.hid hm2.lt
            have hlk := look2 HM3.out Try.underlying61 (zero3 _) HWX.out
            clear hq2 hf2 hsz2 ho2 hm2 hb2 hal HC q0 HQ HO HMV HB
            cases hfx : f xn with
            | none =>
              rw [hfx] at hlk
              have HNW := Lib.hid (HNEW.out hfx)
              obtain ⟨k, hk⟩ : ∃ k, ord.length = k := ⟨_, rfl⟩
              have hkn : k ≤ 10000 := by have := HOD.out.len; have := HN.out; omega
              have HK := Lib.hid hk
              obtain ⟨A, c, rfl⟩ := HO3.out.form
              rw [hk] at HO3 HD ⊢
              have HMM := Lib.hid (HM3.out.put Try.underlying61 (by have := HNN.out; omega) HWX.out (.int .i64 (k : Int)))
              obtain ⟨w4, hrun, hm4, hg4⟩ := HMM.out
              simp only [Option.getD, Option.isSome] at hlk
              clear hfx HNEW HOLD hk HMM
              obtain ⟨v3, hv3⟩ : ∃ v, Value.slice A k c = v := ⟨_, rfl⟩
              have hlen : ∀ W : World, (Builtin.len_ #[22] 3 #[v3]).run Try.prog W = .ok (.int .i64 (k : Int)) W := fun W => by rw [← hv3]; kernel_rfl
              rw [hv3] at HO3 HD ⊢
              have HS4 := Lib.hid (show w.heap.size ≤ w4.heap.size from by have := hg4.size; rw [World.size_alloc] at this; have := HS2.out; omega)
              have HO4 := Lib.hid (show OW w4 w.heap.size 39 v3 ord from HO3.out.keep fun g e => hg4.block g (HO3.out.olt e).2 (fun e2 => HD.out.vm (e2 ▸ e)))
              have HQ4 := Lib.hid (Qu_keep (w' := w4) HQ3.out (hg4.block _ HQ3.out.lt (fun e => HD.out.qm (by injection e))) (fun g e => hg4.block g (Qu_lo HQ3.out g e).2.1 (fun e2 => HD.out.om (e2 ▸ e))))
              have HB4 := Lib.hid (HB3.out.grown hg4 (by rw [World.size_alloc]; have := HS2.out; omega) (fun g e => by injection e with e; have := HLM.out; omega))
              have HOW := Lib.hid (show w4.ownsRow w.heap.size 39 3 v3 k (encW ord) from by have := HO4.out; unfold OW at this; rw [HK.out] at this; exact this)
              have hk4 : ∀ j, w4.cell? ⟨w2.heap.size, j, none⟩ = #[Value.int .i64 xd, .int .i64 xn, .bool xw][j]? := fun j => (World.cell?_of_block (a := ⟨w2.heap.size, j, none⟩) (hg4.block w2.heap.size (by simp) (fun e => by injection e with e; have := HMLT.out; omega))).trans (World.cell?_alloc_new _ _ _ _)
              have k0 := hk4 0
              have k1 := hk4 1
              have k2 := hk4 2
              simp only [List.getElem?_toArray, List.getElem?_cons_zero, List.getElem?_cons_succ] at k0 k1 k2
              have HM4 := Lib.hid hm4
              clear hm4 hg4 hv3 hk4
              go_wp2_with (at_builtin; go_loud (refine wpList_append_own_at _ rfl (.tmp 55) (.tmp 57) 22 rfl w.heap.size 39 i0 _ 3 24 Try.underlying22 HI.out HZ.out.1 HZ.out.2.1 HZ.out.2.2 rfl (by decide) v3 k (encW ord) rfl (HOW.out.alloc _) ⟨w4.heap.size, 0, none⟩ 1 1 [.int .i64 xd, .int .i64 xn, .bool xw] rfl rfl (World.news_of_block (cs := #[.int .i64 xd, .int .i64 xn, .bool xw]) (t := 39) (fr := (0, 0)) (heap_alloc_new w4 _)) (by intro u hu; simp at hu; rcases hu with rfl | rfl | rfl <;> rfl) (by unfold maxLen; omega) (by omega) (by have := HS4.out; simp; omega) ?_; intro v1 w5 hown1 hgrow1 _ hat1))
              go_roundg q
              case measure => omega
              case rel =>
                have hz : (w4.alloc (.cells #[.int .i64 xd, .int .i64 xn, .bool xw] 39)).heap.size = w4.heap.size + 1 := by simp
                have hbk : ∀ k, k < w4.heap.size → v3.ownBlock ≠ some k → w5.heap[k]? = w4.heap[k]? := fun k hk hne => (hgrow1.block k (by rw [hz]; omega) (fun e => hne e.symm)).trans ((hp.below_alloc w4 _).block k hk)
                have hmlt := HM4.out.lt
                refine ⟨some G, cc, zp, ord ++ [⟨xd, xn, xw⟩], _, _, _, HPS.out.2.1.symm, Lib.hid (Qu_keep HQ4.out (hbk _ HQ4.out.lt HD.out.vq) (fun g e => hbk g (Qu_lo HQ4.out g e).2.1 (fun e2 => HD.out.vo g e2 e))), Lib.hid ?_, Lib.hid (HM4.out.of_block (hbk m hmlt HD.out.vm)), Lib.hid (by rw [HPS.out.2.1]; have := HNN.out; have := HQQ.out; omega), Lib.hid (by have := HNW.out; rw [HK.out] at this; exact this), Lib.hid ⟨HD.out.qm, HD.out.om, ?_, ?_, ?_⟩, Lib.hid ((HB4.out.alloc HS4.out _).grown hgrow1 (by rw [hz]; have := HS4.out; omega) (fun g e => (HO4.out.olt e).1))⟩
                · unfold OW
                  rw [List.length_append, HK.out, encW_app]
                  exact hown1
                · intro e
                  rcases hat1 with h | h
                  · exact HD.out.vq (h ▸ e)
                  · rw [h] at e; injection e with e; have := HQ4.out.lt; omega
                · intro e
                  rcases hat1 with h | h
                  · exact HD.out.vm (h ▸ e)
                  · rw [h] at e; injection e with e; omega
                · intro B e
                  rcases hat1 with h | h
                  · exact HD.out.vo B (h ▸ e)
                  · rw [h] at e; injection e with e; intro e2; have := (Qu_lo HQ4.out B e2).2.1; omega
            | some v =>
              rw [hfx] at hlk
              obtain ⟨j, hj, rfl, hjn⟩ := HOD.out.pl _ _ hfx
              simp only [Option.getD, Option.isSome] at hlk
              have HOL := Lib.hid (HOLD.out j hj hjn)
              obtain ⟨k, hk⟩ : ∃ k, ord.length = k := ⟨_, rfl⟩
              have hkn : k ≤ 10000 := by have := HOD.out.len; have := HN.out; omega
              have HK := Lib.hid hk
              rw [hk] at hj
              obtain ⟨gb, c, rfl, hlo2, hlt2⟩ := HO3.out.some_ (by rw [hk]; omega)
              obtain ⟨b2, o2, e, _, y1, y2, y3⟩ := HO3.out.wan j (by rw [hk]; exact hj)
              injection e with e
              injection e with e1 e2
              subst e1 e2
              rw [Nat.zero_add] at y1 y2 y3
              have fz := HO3.out
              have FZ := fun o => fz.frz o
              rw [hk] at HO3 HD ⊢
              have HW9 := Lib.hid (fun b => (show OW _ _ _ (.slice (some ⟨gb, 0, none⟩) ord.length c) ord from by rw [HK.out]; exact HO3.out).wr (i := j) (by rw [HK.out]; exact hj) b)
              obtain ⟨x, hx⟩ : ∃ x, gw ord j = x := ⟨_, rfl⟩
              rw [hx] at y1 y2 y3 HOL HW9
              obtain ⟨od, on, ow⟩ := x
              dsimp only at y1 y2 y3 HOL HW9
              clear hfx HNEW HOLD hk y1 y2 fz hx hjn
              cases ow
              · go_wp2_with fail
                go_roundg q
                case measure => omega
                case rel =>
                  have hbk : ∀ (b : Bool) (k : Nat), gb ≠ k → ((w2.alloc (.cells #[.int .i64 xd, .int .i64 xn, .bool xw] 39)).setCell ⟨gb, j * 3 + 2, none⟩ (.bool b)).heap[k]? = (w2.alloc (.cells #[.int .i64 xd, .int .i64 xn, .bool xw] 39)).heap[k]? := fun b k hne => Below.heap_setCell _ _ _ _ (fun e => hne (by first | exact e | exact e.symm))
                  refine ⟨some G, cc, zp, _, _, _, _, HPS.out.2.1.symm, Lib.hid (Qu_keep HQ3.out (hbk _ _ (fun e => HD.out.vq (by rw [e]; rfl))) (fun g e => hbk _ _ (fun e2 => HD.out.vo gb rfl (e2 ▸ e)))), Lib.hid ?_, Lib.hid (HM3.out.of_block (hbk _ _ (fun e => HD.out.vm (by rw [e]; rfl)))), Lib.hid (by rw [HPS.out.2.1]; have := HNN.out; have := HQQ.out; omega), HOL, HD, Lib.hid (HB3.out.setCell hlo2 _)⟩
                  have := HW9.out (false || xw)
                  rw [HK.out] at this
                  exact this
              · go_wp2_with fail
                go_roundg q
                case measure => omega
                case rel =>
                  have hbk : ∀ (b : Bool) (k : Nat), gb ≠ k → ((w2.alloc (.cells #[.int .i64 xd, .int .i64 xn, .bool xw] 39)).setCell ⟨gb, j * 3 + 2, none⟩ (.bool b)).heap[k]? = (w2.alloc (.cells #[.int .i64 xd, .int .i64 xn, .bool xw] 39)).heap[k]? := fun b k hne => Below.heap_setCell _ _ _ _ (fun e => hne (by first | exact e | exact e.symm))
                  refine ⟨some G, cc, zp, _, _, _, _, HPS.out.2.1.symm, Lib.hid (Qu_keep HQ3.out (hbk _ _ (fun e => HD.out.vq (by rw [e]; rfl))) (fun g e => hbk _ _ (fun e2 => HD.out.vo gb rfl (e2 ▸ e)))), Lib.hid ?_, Lib.hid (HM3.out.of_block (hbk _ _ (fun e => HD.out.vm (by rw [e]; rfl)))), Lib.hid (by rw [HPS.out.2.1]; have := HNN.out; have := HQQ.out; omega), HOL, HD, Lib.hid (HB3.out.setCell hlo2 _)⟩
                  have := HW9.out (true || xw)
                  rw [HK.out] at this
                  exact this
end Go.Proofs.Ytlplbpilpkmoaaa.pl
