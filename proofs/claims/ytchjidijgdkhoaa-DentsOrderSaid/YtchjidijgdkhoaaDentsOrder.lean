/- For every list of acts the law DentsOrder returns true, and what is handed in reads as it did; there are no conditions. -/
import Derived.Test.YtchjidijgdkhoaaTwo
import Derived.Deep.RegionWith
import Derived.ProofKit
import Derived.OpenShut
import Derived.ShutString
namespace Go.Proofs.Ytchjidijgdkhoaa.dentsOrder
open Go.ChangeShapes Go.WideShapes Go.ChangeAt Go.RowKit
open Go.ChangeMaps (open_string shut_string)
set_option linter.unusedVariables false

theorem own : ownKnob Try.prog.godebug = none := by kernel_rfl
theorem laid : laidOutB Try.prog = true := by kernel_rfl

open Go.Shelf

theorem empty_less {s : ByteArray} (h : nerr s.data.toList = 0) : lessB ⟨#[]⟩ s = true := by
  unfold lessB
  have hne : s.data.toList ≠ [] := fun e => by rw [e] at h; simp [nerr] at h
  rw [Lib.toList_data, Lib.toList_data]
  cases hs : s.data.toList with
  | nil => exact absurd hs hne
  | cons x l => rfl
theorem nps_empty {L : List En} (h : Fine L) : nps ⟨#[]⟩ L = 0 := by
  cases L with
  | nil => rfl
  | cons x l => unfold nps; rw [if_pos (empty_less (h.good x (by simp)).1)]
theorem nps_at {L : List En} (h : Sorted L) {k : Nat} {x : En} (hx : L[k]? = some x) : nps x.1 L = k + 1 := by
  induction L generalizing k with
  | nil => simp at hx
  | cons y l ih =>
    obtain ⟨h1, h2⟩ := h.cons
    cases k with
    | zero =>
      simp at hx
      subst hx
      unfold nps
      rw [if_neg (by rw [less_irrefl]; decide)]
      congr 1
      cases l with
      | nil => rfl
      | cons z l => unfold nps; rw [if_pos (h2 z (by simp))]
    | succ k =>
      have hx' : l[k]? = some x := by simpa using hx
      unfold nps
      rw [if_neg (by rw [less_asymm (h2 x (List.mem_of_getElem? hx'))]; decide), ih h1 hx']

theorem lo_next {lo gg g2 k cap M : Nat} (hlo : lo ≤ gg) (hM : lo ≤ M) (hat : (Value.slice (some ⟨gg, 0, none⟩) k cap).ownBlock = some g2 ∨ g2 = M) : lo ≤ g2 := by
  rcases hat with e | e
  · have h : gg = g2 := by simpa [Value.ownBlock] using e
    rw [← h]; exact hlo
  · rw [e]; exact hM

set_option maxHeartbeats 8000000 in
set_option maxRecDepth 100000 in
theorem walk (A : Option Addr) (n c : Nat) (F : Nat → Act3) (w : World) (k1 : n ≤ c ∧ c ≤ maxLen) (hF : Acts w w.heap.size A n F) :
    Calls Try.prog 4 #[.slice A n c] w (AwakeE w) := by
  have hnm : n ≤ maxLen := Nat.le_trans k1.1 k1.2
  obtain ⟨i0, hi, hz0, hz1, hz2⟩ := info_parts info37
  have HP := Lib.hid (fun w1 hb => play_any A n c F w w1 hnm hF hb)
  have hLl : (playL F (min n 100)).length ≤ 100 := Nat.le_trans (playL_length _ _) (by omega)
  generalize playL F (min n 100) = L at *
  have C1 := Lib.hid (fun D W (h : DirX w W D No L) s => x_next h (by omega) s)
  have C2 := Lib.hid (fun D W (h : DirX w W D No L) => x_all h (by omega))
  clear k1 hF hnm
  go_enter Try.func4, Try.ntmps4
  go_wp2_with fail
  refine (awake_any _).mono ?_
  rintro e w1 ⟨rfl, hb1⟩
  have HP1 := Lib.hid (HP.out w1 hb1)
  clear hb1 HP
  go_wp2_with fail
  refine HP1.out.mono ?_
  rintro e w2 ⟨D, rfl, hd2⟩
  have HFI := Lib.hid hd2.fine
  have H2 := Lib.hid hd2
  have K1 := Lib.hid (C2.out D w2 hd2)
  clear hd2 HP1 C2
  go_wp2_with fail
  refine K1.out.mono ?_
  rintro e w4 ⟨o4, c4, rfl, -, -, hsl, hb4⟩
  have HR := Lib.hid (Reads.of_sl hsl)
  have H4 := Lib.hid (H2.out.below hb4)
  have HA := Lib.hid (fun W hb B c => same_any B (Ao o4) L.length L.length c c4 L L W rfl rfl (by omega) (by omega))
  generalize Ao o4 = A4 at *
  generalize hn4 : L.length = n4 at *
  have HN4 := Lib.hid hn4
  clear hsl hb4 K1 H2 hn4
  go_wp2_with fail
  go_loopg [18] n4 (fun g s18 wr => ∃ k : Nat, g + k = n4 ∧ s18 = .int .i64 k ∧ Hid (Below w4.heap.size w4 wr))
  case atStart => exact ⟨0, by omega, rfl, Lib.hid (Below.refl _ _)⟩
  case round =>
    obtain ⟨k, hgk, rfl, HB⟩ := hrel
    by_cases hkn : k < n4
    · have hy : L[k]? = some (L[k]'(by rw [HN4.out]; exact hkn)) := List.getElem?_eq_getElem _
      obtain ⟨G, rfl, hG, f0, f1⟩ := (HR.out.below HB.out) k _ hy
      have hgood := HFI.out.good _ (List.mem_of_getElem? hy)
      have hsz : ∀ y : En, nerr y.1.data.toList = 0 → y.1.size ≤ 9223372036854775807 := fun y h => by
        unfold nerr at h
        rw [Lib.size_eq]
        split at h
        · cases h
        · split at h
          · cases h
          · omega
      generalize hyy : L[k]'(by rw [HN4.out]; exact hkn) = y at *
      have HY := Lib.hid hy
      obtain ⟨ys, yv⟩ := y
      dsimp only at f0 f1 hgood
      have hszy := hsz (ys, yv) hgood.1
      have hGr : G < wr.heap.size := Nat.lt_of_lt_of_le hG HB.out.size
      have hC1 := Lib.hid (fun p : BelowOf wr => calls_below (w := wr) (f := 22) (args := #[.string ys]) (v := .int .i64 0) p ((name_any ys p.W hszy).mono fun e w' ⟨he, hb⟩ => ⟨by rw [he, hgood.1], hb⟩))
      have hv := hgood.2
      have hvb : decide (yv < 1) = false := decide_eq_false (by omega)
      have g0 : ∀ p : BelowOf wr, p.W.cell? ⟨G, k * 2, none⟩ = some (.string ys) := fun p => (p.h.cell (p := ⟨G, k * 2, none⟩) hGr).trans f0
      have g1 : ∀ p : BelowOf wr, p.W.cell? ⟨G, k * 2 + 1, none⟩ = some (.int .i64 yv) := fun p => (p.h.cell (p := ⟨G, k * 2 + 1, none⟩) hGr).trans f1
      clear hy hgood hsz hyy f0 f1
      cases k with
      | zero =>
        go_upto_region 8 with fail
        refine wp_region_below (by kernel_rfl) (by kernel_rfl) ?_
        repeat (go_big_quiet_step ((first | (go_at_call 22; with_reducible exact hC1.out _) | fail)))
        refine wpQuiet_nil ?_
        rintro w5 ⟨⟨_, h5⟩, rfl⟩
        have HB5 := Lib.hid (below_step HB.out h5)
        clear h5
        go_wp2_with fail
        go_roundg (gk - 1)
        case measure => omega
        case rel => exact ⟨1, by omega, by go_num, HB5⟩
      | succ k =>
        have hz : L[k]? = some (L[k]'(by rw [HN4.out]; omega)) := List.getElem?_eq_getElem _
        have hzy : lessB (L[k]'(by rw [HN4.out]; omega)).1 ys = true := by
          have := List.pairwise_iff_getElem.1 HFI.out.sorted k (k + 1) (by rw [HN4.out]; omega) (by rw [HN4.out]; exact hkn) (by omega)
          have hy := HY.out
          rw [List.getElem?_eq_getElem (by rw [HN4.out]; exact hkn)] at hy
          injection hy with hy
          rw [hy] at this
          exact this
        obtain ⟨G', hGe, hG', f0, f1⟩ := (HR.out.below HB.out) k _ hz
        obtain rfl : G = G' := by injection hGe with h; injection h
        generalize L[k]'(by rw [HN4.out]; omega) = z at *
        obtain ⟨zs, zv⟩ := z
        dsimp only at f0 f1 hzy
        have g2 : ∀ p : BelowOf wr, p.W.cell? ⟨G, k * 2, none⟩ = some (.string zs) := fun p => (p.h.cell (p := ⟨G, k * 2, none⟩) hGr).trans f0
        have hC2 := Lib.hid (fun p : BelowOf wr => calls_below (w := wr) (f := 23) (args := #[.string zs, .string ys]) (v := .bool true) p ((less_any zs ys p.W).mono fun e w' ⟨he, hb⟩ => ⟨by rw [he, hzy], by rw [hb]; exact Below.refl _ _⟩))
        have hkn2 : k < n4 := by omega
        clear hz hzy hGe f0 f1
        go_upto_region 8 with fail
        refine wp_region_below (by kernel_rfl) (by kernel_rfl) ?_
        repeat (go_big_quiet_step ((first | (go_at_call 22; with_reducible exact hC1.out _) | (go_at_call 23; with_reducible exact hC2.out _))))
        refine wpQuiet_nil ?_
        rintro w5 ⟨⟨_, h5⟩, rfl⟩
        have HB5 := Lib.hid (below_step HB.out h5)
        clear h5
        go_wp2_with fail
        go_roundg (gk - 1)
        case measure => omega
        case rel => exact ⟨k + 1 + 1, by omega, by go_num, HB5⟩
    · have hjn : ¬ ((k : Int) < (n4 : Int)) := by omega
      have H5 := Lib.hid (H4.out.below HB.out)
      have HR5 := Lib.hid ((HR.out.below HB.out).more HB.out.size)
      have hE0 := Lib.hid (show ERow (wr.alloc (.cells #[] 37)) wr.heap.size 0 (L.take 0) from ⟨Nat.le_refl _, by unfold maxLen; omega, [], heap_alloc_new wr _, rfl, rfl⟩)
      have HN0 := Lib.hid (nps_empty HFI.out)
      have HB0 := Lib.hid (below_alloc wr (.cells #[] 37))
      clear hkn HR H4 HB
      go_wp2_with fail
      go_loopg [6, 7] n4 (fun g s6 s7 wy => ∃ (k gg cap : Nat) (s : ByteArray), g + k = n4 ∧ s6 = .slice (some ⟨gg, 0, none⟩) k cap ∧ s7 = .string s ∧ wr.heap.size ≤ gg ∧ Hid (ERow wy gg cap (L.take k)) ∧ Hid (nps s L = k) ∧ Hid (Below wr.heap.size wr wy))
      case atStart => exact ⟨0, wr.heap.size, 0, ⟨#[]⟩, by omega, rfl, rfl, Nat.le_refl _, hE0, HN0, HB0⟩
      case round =>
        clear hE0 HN0 HB0
        obtain ⟨k, gg, cap, s, hgk, rfl, rfl, hlo, HE, HN, HB⟩ := hrel
        have H6 := Lib.hid (H5.out.below HB.out)
        have HR6 := Lib.hid (HR5.out.step HB.out)
        have K2 := Lib.hid (C1.out D wr H6.out s)
        cases hx : L[k]? with
        | none =>
          rw [show nextV s L = .tuple #[Ev (⟨#[]⟩, 0), .bool false] by unfold nextV; rw [lnext_nps, HN.out, hx]] at K2
          have hk4 : k = n4 := by have := List.getElem?_eq_none_iff.1 hx; rw [HN4.out] at this; omega
          subst hk4
          have HEL := Lib.hid (show ERow wr gg cap L by have := HE.out; rwa [List.take_of_length_le (by rw [HN4.out]; exact Nat.le_refl _)] at this)
          clear hx
          go_wp2_with fail
          refine K2.out.mono ?_
          rintro e w7 ⟨rfl, hb7⟩
          have hb8 := below_step hb7 (below_alloc w7 (.cells #[.string ⟨#[]⟩, .int .i64 0] 37))
          have HEL8 := Lib.hid (HEL.out.of_block (hb8.block gg HEL.out.lt))
          have H8 := Lib.hid (H6.out.below hb8)
          have HR8 := Lib.hid (HR6.out.step hb8)
          have K3 := Lib.hid (same_any (some ⟨gg, 0, none⟩) A4 k k cap c4 L L _ HN4.out.symm HN4.out.symm (by omega) (by omega) (Reads.of_sl (o := some gg) (lo := 0) ⟨Nat.zero_le _, HEL8.out⟩) HR8.out)
          rw [decide_eq_true rfl] at K3
          clear hb7 hb8 K2
          go_wp2_with fail
          refine K3.out.mono ?_
          rintro e w9 ⟨rfl, hb9⟩
          have H9 := Lib.hid (H8.out.below hb9)
          have K4 := Lib.hid (x_len H9.out)
          rw [HN4.out] at K4
          clear hb9 K3
          go_wp2_with fail
          refine K4.out.mono ?_
          rintro e w10 ⟨rfl, hw⟩
          subst hw
          go_wp2_with fail
          go_ret
          exact ⟨rfl, H9.out.bel⟩
        | some x =>
          rw [show nextV s L = .tuple #[Ev x, .bool true] by unfold nextV; rw [lnext_nps, HN.out, hx]] at K2
          have hkn : k < n4 := by have := (List.getElem?_eq_some_iff.1 hx).1; rw [HN4.out] at this; exact this
          have HNX := Lib.hid (nps_at HFI.out.sorted hx)
          have HTK := Lib.hid (show L.take (k + 1) = L.take k ++ [x] by rw [List.take_add_one, hx]; rfl)
          have htl : (L.take k).length = k := by rw [List.length_take, HN4.out]; omega
          obtain ⟨xs, xv⟩ := x
          dsimp only [Ev] at K2 HNX
          have hgl := HE.out.lt
          have HOB := Lib.hid (fun (w9 w10 : World) (g2 cap2 : Nat) (hb : Below wr.heap.size wr w9) (hown : w10.ownsRow 0 37 2 (.slice (some ⟨g2, 0, none⟩) (k + 1) cap2) (k + 1) (encL (L.take k) ++ encL [(xs, xv)])) => (by
            rw [← encL_append, ← HTK.out] at hown
            exact (ERow.of_owns hown (by rw [List.length_take, HN4.out]; omega)).1 : ERow w10 g2 cap2 (L.take (k + 1))))
          have HOW := Lib.hid (fun (w9 : World) (hb : Below wr.heap.size wr w9) => (by
            have := (HE.out.of_block (hb.block gg hgl)).owns (lo := 0) (Nat.zero_le _)
            rwa [htl] at this : w9.ownsRow 0 37 2 (.slice (some ⟨gg, 0, none⟩) k cap) k (encL (L.take k))))
          clear hx
          go_wp2_with fail
          refine K2.out.mono ?_
          rintro e w7 ⟨rfl, hb7⟩
          have hz7 := hb7.size
          have hb9 := below_step (below_step hb7 (below_alloc w7 (.cells #[.string xs, .int .i64 xv] 37))) (below_alloc (w7.alloc (.cells #[.string xs, .int .i64 xv] 37)) (.cells #[.string xs, .int .i64 xv] 37))
          have HO9 := Lib.hid (HOW.out _ hb9)
          have hx9 := cells_of_box (x := (xs, xv)) (heap_alloc_new (w7.alloc (.cells #[.string xs, .int .i64 xv] 37)) (.cells #[.string xs, .int .i64 xv] 37))
          rw [World.size_alloc] at hx9
          have HX9 := Lib.hid hx9
          clear hx9
          have HB9 := Lib.hid hb9
          have H1 := Lib.hid (encL_one [(xs, xv)])
          have HL7 := Lib.hid (show w7.heap.size < ((w7.alloc (.cells #[.string xs, .int .i64 xv] 37)).alloc (.cells #[.string xs, .int .i64 xv] 37)).heap.size by rw [World.size_alloc, World.size_alloc]; omega)
          have hne7 : w7.heap.size ≠ gg := by omega
          have HNE := Lib.hid (show some w7.heap.size ≠ (Value.slice (some ⟨gg, 0, none⟩) k cap).ownBlock from fun e => hne7 (by simpa [Value.ownBlock] using e))
          have hq8 := (below_alloc (w7.alloc (.cells #[.string xs, .int .i64 xv] 37)) (.cells #[.string xs, .int .i64 xv] 37)).cell (p := ⟨w7.heap.size, 0, none⟩) (by rw [World.size_alloc]; exact Nat.lt_succ_self _)
          have HQ := Lib.hid (hq8.trans (show _ = some (.string xs) by simp))
          clear hq8
          clear hb7 hb9 K2
          go_wp2_with (at_builtin; refine wpList_append_lies _ (by rfl) _ _ _ (by rfl) 0 37 i0 _ 2 24 Try.underlying27 hi hz0 hz1 hz2 (by rfl) (by decide) _ _ _ (by rfl) HO9.out ⟨w7.heap.size + 1, 0, none⟩ 1 1 (encL [(xs, xv)]) (by rfl) (by rfl) HX9.out H1.out (by omega) (by unfold maxLen; omega) (by omega) (Nat.zero_le _) _ rfl ?_; intro g2 cap2 w10 hown1 hgrow hat hlt3; have q0 := (hgrow.cell_far ⟨w7.heap.size, 0, none⟩ HL7.out HNE.out).trans HQ.out)
          have HE2 := Lib.hid (HOB.out _ w10 g2 cap2 HB9.out hown1)
          have HB2 := Lib.hid (below_grown_far (below_step HB.out HB9.out) hgrow hlo)
          have hg2 := lo_next hlo (Nat.le_trans HB.out.size HB9.out.size) hat
          have hkn3 : ¬ ((n4 : Int) < (k : Int) + 1) := by omega
          clear hown1 hgrow hat hlt3 hne7
          go_wp2_with fail
          go_roundg (gk - 1)
          case measure => omega
          case rel => exact ⟨k + 1, g2, cap2, xs, by omega, rfl, rfl, hg2, HE2, HNX, HB2⟩

set_option maxRecDepth 100000 in
theorem lifted (os : Os) (started : os.Started) (H : Type) (enc : TypeId × Value → H) :
    ReturnsInHanded {} Try.checked os 4 .any (Rows.dentsOrderSpec.pre6 enc Try.prog Try.f4 Rows.dentsOrderRow.domain false) (Rows.dentsOrderSpec.post enc Try.prog Try.f4 false true false false) := by
  refine returnsInHanded_of_change (C := Try.checked) own started (by kernel_rfl) Try.func4
    (ChangeSpec.witness6 (enc := enc) (C := Try.checked) false ⟨#[], #[.slice none 0 0], []⟩ 8 (by kernel_rfl) (by kernel_rfl) (by kernel_rfl) (by kernel_rfl)) ?_
  intro W base args ds gs before hval0 hW hcnd _
  have hval : ∀ (j : Nat) t v, Try.f4.params[j]? = some t → args[j]? = some v → Value.okWide Try.prog W .any base t v := hval0
  have hW' := hW
  obtain ⟨p, q, hA0, hV, rfl, hfz, hnd⟩ := hW
  have hA : DataW.TrodAll enc Try.prog W 0 (fun _ => true) true Try.f4.params.toList args.toList ds p := hA0
  rw [Try.params4] at hA hval
  obtain ⟨v0, vs0, d0, ds0, p0, q0, hargs, rfl, rfl, h0, r0⟩ := trodAll_cons hA
  obtain ⟨rfl, rfl, rfl⟩ := trodAll_nil r0
  obtain rfl : args = #[v0] := by cases args; simp_all
  obtain ⟨rfl, rfl⟩ := trodVars_none hV
  have hlt := fun x hx => hW'.lt x hx
  have t0 := h0
  obtain ⟨A0, n0, c0, x0, rfl, e0, s0⟩ := open_acts (hval 0 22 v0 rfl rfl) h0
  clear hA0 hval0
  refine (walk A0 n0 c0 x0 W e0 s0).mono fun e W' ⟨he, hg⟩ => ?_
  subst he
  exact ⟨_, rfl, law_post (pv := []) hW' (fun _ _ _ => (trodAll_cons_mk (shut_bool Try.underlying4 _) trodAll_mk0)) (fun sp hsp => (trodAll_cons_mk (arg_stays (by decide) t0 hg (by simp +contextual) hlt hsp laid) trodAll_mk0)) (fun _ _ => rfl) (by simp)
    hg (ok_one (by kernel_rfl) rfl (okWide_bool_mk Try.underlying4 _))⟩

theorem over : Rows.dentsOrderRow.holds Try.pinned (OpenSpec.ofChange Rows.dentsOrderSpec) :=
  OpenClaim.holds_of_wide 4 Try.f4 rfl rfl rfl rfl rfl rfl rfl ⟨rfl, rfl, rfl, rfl, rfl⟩ rfl rfl rfl rfl rfl (by kernel_rfl) Try.func4 (by kernel_rfl)
    (of_decide_eq_true (by kernel_rfl)) (by unfold Func.isWrapper; first | (rw [if_pos (by decide +kernel)]; kernel_rfl) | (rw [if_neg (by decide +kernel)]; exact ⟨rfl, rfl⟩))
    (fun os started H enc _ => lifted os started H enc)

/-- The statement. -/
theorem proved : Rows.DentsOrderSaid :=
  over
end Go.Proofs.Ytchjidijgdkhoaa.dentsOrder
