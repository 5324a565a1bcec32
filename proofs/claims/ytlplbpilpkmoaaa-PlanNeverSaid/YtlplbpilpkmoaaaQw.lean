/- The code's 'Wants'. -/
import Derived.Test.YtlplbpilpkmoaaaQl
namespace Go.Proofs.Ytlplbpilpkmoaaa.pl
open Go.RowKit
set_option linter.unusedVariables false
set_option linter.unusedSimpArgs false

def lastW (c : Cx) (n i : Nat) : Bool := decide (c.op = 17) || (decide (i + 1 = n) && decide (c.kind = 2))
def dirW (c : Cx) (at_ : List Int) (i : Nat) : Wt := ⟨i, at_.getD i 0, lastW c at_.length i⟩
def dirs (c : Cx) (at_ : List Int) (k : Nat) : List Wt := (List.range k).map (dirW c at_)
theorem dirs_succ (c : Cx) (at_ : List Int) (k : Nat) : dirs c at_ (k + 1) = dirs c at_ k ++ [dirW c at_ k] := by simp [dirs, List.range_succ]
theorem dirs_len (c : Cx) (at_ : List Int) (k : Nat) : (dirs c at_ k).length = k := by simp [dirs]
theorem gw_dirs (c : Cx) (at_ : List Int) {k i : Nat} (h : i < k) : gw (dirs c at_ k) i = dirW c at_ i := by rw [gw_get (by rw [dirs_len]; exact h)]; simp [dirs]
def wantsL (c : Cx) (at_ : List Int) (file : Int) : List Wt := dirs c at_ at_.length ++ (if file ≠ 0 then [⟨at_.length, file, c.wf⟩] else [])
theorem wantsL_len (c : Cx) (at_ : List Int) (file : Int) : (wantsL c at_ file).length ≤ at_.length + 1 := by
  unfold wantsL; rw [List.length_append, dirs_len]; split <;> simp
theorem wantsL_wf {c : Cx} {at_ : List Int} {file : Int} (h : ∀ a ∈ at_, sc.Wf a) (hf : sc.Wf file) : ∀ x ∈ wantsL c at_ file, sc.Wf x.n := fun x hx => by
  unfold wantsL at hx
  rcases List.mem_append.1 hx with h1 | h1
  · obtain ⟨i, hi, rfl⟩ := List.mem_map.1 h1
    have hi2 : i < at_.length := by simpa using hi
    show sc.Wf (at_.getD i 0)
    rw [List.getD, List.getElem?_eq_getElem hi2]
    exact h _ (List.getElem_mem hi2)
  · split at h1
    · rw [List.mem_singleton.1 h1]; exact hf
    · simp at h1
/-- The slice at A reads as the numbers xs, below block B. -/
def Ivs (w : World) (B : Nat) (A : Option Addr) (xs : List Int) : Prop := ∀ i, i < xs.length → ∃ b off, A = some ⟨b, off, none⟩ ∧ b < B ∧ w.cell? ⟨b, off + i, none⟩ = some (.int .i64 (xs.getD i 0))
theorem Ivs.below {w w' : World} {B : Nat} {A : Option Addr} {xs : List Int} (h : Ivs w B A xs) (hb : Below B w w') : Ivs w' B A xs := fun i hi => by
  obtain ⟨b, off, e, hB, h0⟩ := h i hi
  exact ⟨b, off, e, hB, (hb.cell (p := ⟨b, off + i, none⟩) hB).trans h0⟩
theorem OW.weak {w : World} {lo lo' E : Nat} {v : Value} {xs : List Wt} (h : OW w lo E v xs) (hl : lo' ≤ lo) : OW w lo' E v xs :=
  ⟨h.1, h.2.imp id fun ⟨g, c, cur, h1, h2, r⟩ => ⟨g, c, cur, h1, Nat.le_trans hl h2, r⟩⟩
def Cx.cells (c : Cx) : Array Value := #[.int .i64 c.op, .int .i64 c.fd, .int .i64 c.fl, .int .i64 c.n, .int .i64 c.off, .string c.a, .string c.b]
/-- Block B is a box of the call c. -/
def CBox (w : World) (B : Nat) (c : Cx) : Prop := B < w.heap.size ∧ ∀ j, w.cell? ⟨B, j, none⟩ = c.cells[j]?
theorem CBox.of_block {w w' : World} {B : Nat} {c : Cx} (h : CBox w B c) (hs : w.heap.size ≤ w'.heap.size) (hb : w'.heap[B]? = w.heap[B]?) : CBox w' B c := ⟨Nat.lt_of_lt_of_le h.1 hs, fun j => (World.cell?_of_block (a := ⟨B, j, none⟩) hb).trans (h.2 j)⟩
theorem CBox.below {w w' : World} {B : Nat} {c : Cx} (h : CBox w B c) (hb : Below w.heap.size w w') : CBox w' B c := h.of_block hb.size (hb.block B h.1)
theorem CBox.all {w : World} {B : Nat} {c : Cx} (h : CBox w B c) : w.cell? ⟨B, 0, none⟩ = some (.int .i64 c.op) ∧ w.cell? ⟨B, 1, none⟩ = some (.int .i64 c.fd) ∧ w.cell? ⟨B, 2, none⟩ = some (.int .i64 c.fl) ∧ w.cell? ⟨B, 3, none⟩ = some (.int .i64 c.n) ∧ w.cell? ⟨B, 4, none⟩ = some (.int .i64 c.off) ∧ w.cell? ⟨B, 5, none⟩ = some (.string c.a) ∧ w.cell? ⟨B, 6, none⟩ = some (.string c.b) :=
  ⟨h.2 0, h.2 1, h.2 2, h.2 3, h.2 4, h.2 5, h.2 6⟩
theorem cbox_new (w : World) (c : Cx) : CBox (w.alloc (.cells c.cells 32)) w.heap.size c := ⟨by simp, fun j => World.cell?_alloc_new _ _ _ _⟩

theorem order_own {w : World} {lo : Nat} {v : Value} {l : List Wt} (h : OW w lo 39 v l) (hw : ∀ x ∈ l, sc.Wf x.n) (l1 : l.length ≤ 10000) : Calls Try.prog 10 #[v] w (OrdE w l) := by
  obtain ⟨A, c, rfl⟩ := h.form
  exact order_any h.wan hw l1
set_option maxRecDepth 100000 in
set_option maxHeartbeats 4000000 in
theorem wants_any {w : World} {c : Cx} {A1 : Option Addr} {at_ : List Int} {file : Int} {c1 : Nat} (h1 : Ivs w w.heap.size A1 at_) (ha : ∀ a ∈ at_, sc.Wf a) (hf : sc.Wf file) (l1 : at_.length ≤ 1000) :
    Calls Try.prog 18 #[c.v, .slice A1 at_.length c1, .int .i64 file] w (OrdE w (wantsL c at_ file)) := by
  have H1 := Lib.hid h1
  have HWF := Lib.hid (wantsL_wf (c := c) ha hf)
  have HLL := Lib.hid (wantsL_len c at_ file)
  obtain ⟨n, hn⟩ : ∃ n, at_.length = n := ⟨_, rfl⟩
  have HWL := Lib.hid (show wantsL c at_ file = dirs c at_ n ++ (if file ≠ 0 then [⟨n, file, c.wf⟩] else []) from by unfold wantsL; rw [hn])
  have HDW := Lib.hid (show ∀ i, dirW c at_ i = ⟨i, at_.getD i 0, lastW c n i⟩ from fun i => by unfold dirW; rw [hn])
  rw [hn] at l1 HLL ⊢
  have HN := Lib.hid hn
  obtain ⟨i0, hi, hz0, hz1, hz2⟩ := info_parts info_want
  have HI := Lib.hid hi
  have HZ := Lib.hid (show i0.zero = some (Wv ⟨0, 0, false⟩) ∧ i0.size = 3 ∧ i0.bytes = 24 from ⟨hz0, hz1, hz2⟩)
  clear h1 hn ha hf hi hz0 hz1 hz2
  have HBX := Lib.hid (cbox_new w c)
  obtain ⟨w0, hw0⟩ : ∃ w0, w.alloc (.cells c.cells 32) = w0 := ⟨_, rfl⟩
  have HB0 := Lib.hid (show Below w.heap.size w w0 from by rw [← hw0]; exact hp.below_alloc _ _)
  have HS0 := Lib.hid (show w.heap.size + 1 ≤ w0.heap.size from by rw [← hw0]; simp)
  rw [hw0] at HBX
  unfold Cx.cells at hw0
  go_enter Try.func18, Try.ntmps18
  go_wp2_with fail
  clear hw0
  go_loopg [7, 14] n (fun gk u7 u14 wx => ∃ i : Nat, u14 = .int .i64 i ∧ gk + i = n ∧ Hid (OW wx (w.heap.size + 1) 39 u7 (dirs c at_ i)) ∧ Hid (CBox wx w.heap.size c) ∧ Hid (Below w.heap.size w wx))
  case atStart => exact ⟨0, rfl, by omega, Lib.hid (OW.nil _ _ _), HBX, HB0⟩
  case round =>
    clear HBX HB0 HS0
    obtain ⟨i, rfl, hg, HO, HX, HB⟩ := hrel
    obtain ⟨gJ, hJ⟩ : ∃ g, gk = g := ⟨_, rfl⟩
    have HSW := Lib.hid (show w.heap.size + 1 ≤ wr.heap.size from HX.out.1)
    by_cases hi : i < n
    · have hi2 : (i : Int) < (n : Int) := by omega
      obtain ⟨g1, o1, rfl, hg1, x1⟩ := (H1.out.below HB.out) i (by rw [HN.out]; exact hi)
      have HDS := Lib.hid (dirs_succ c at_ i)
      rw [HDW.out i] at HDS
      have HLW := Lib.hid (show lastW c n i = (decide (c.op = 17) || (decide (i + 1 = n) && decide (c.kind = 2))) from rfl)
      obtain ⟨a, hea⟩ : ∃ a, at_.getD i 0 = a := ⟨_, rfl⟩
      rw [hea] at x1 HDS
      obtain ⟨b, hb⟩ : ∃ b, lastW c n i = b := ⟨_, rfl⟩
      rw [hb] at HDS HLW
      obtain ⟨k0, k1, k2, k3, k4, k5, k6⟩ := HX.out.all
      clear hea hb
      obtain ⟨lb, hlb⟩ : ∃ lb, ((i : Int) == (n : Int) - 1) = lb := ⟨_, rfl⟩
      have HLB := Lib.hid (show lb = decide (i + 1 = n) from by rw [← hlb, Bool.eq_iff_iff]; simp; omega)
      go_upto_region 6 with fail
      clear hlb
      go_cut [11] (fun v wx => v = .bool b ∧ Hid (Below wr.heap.size wr wx))
      case first =>
        by_cases e17 : c.op = 17
        · have q17 : (c.op == 17) = true := by simpa using e17
          have HV := Lib.hid (show b = true from by rw [HLW.out]; simp [e17])
          clear e17
          go_wp2_with fail
          go_meet
          case rel => exact ⟨by rw [HV.out], Lib.hid (Below.refl _ _)⟩
        · have q17 : (c.op == 17) = false := by simpa using e17
          by_cases el : i + 1 = n
          · have hl : lb = true := by rw [HLB.out]; simpa using el
            subst hl
            have HK := Lib.hid (fun W => kind_any c W)
            unfold IntE at HK
            have HV := Lib.hid (show b = (c.kind == 2) from by rw [HLW.out]; simp [e17, el]; rfl)
            generalize c.kind = kd at HK HV
            clear e17 el
            go_wp2_with fail
            refine (HK.out _).mono ?_
            rintro _ w2 ⟨rfl, hb2⟩
            have HB2 := Lib.hid hb2
            obtain ⟨kb, hkb⟩ : ∃ kb, (kd == 2) = kb := ⟨_, rfl⟩
            rw [hkb] at HV
            clear hb2 HK
            go_wp2_with fail
            go_meet
            case rel => exact ⟨by rw [HV.out], HB2⟩
          · have hl : lb = false := by rw [HLB.out]; simpa using el
            subst hl
            have HV := Lib.hid (show b = false from by rw [HLW.out]; simp [e17, el])
            clear e17 el
            go_wp2_with fail
            go_meet
            case rel => exact ⟨by rw [HV.out], Lib.hid (Below.refl _ _)⟩
      case rest =>
        obtain ⟨rfl, HBC⟩ := hcut
        have HOC := Lib.hid (HO.out.keep (w' := wc) fun g e => HBC.out.block g (HO.out.olt e).2)
        have HXC := Lib.hid (HX.out.below HBC.out)
        have HBB := Lib.hid (hp.below_step HB.out HBC.out)
        have HSC := Lib.hid (show w.heap.size + 1 ≤ wc.heap.size from Nat.le_trans HSW.out HBC.out.size)
        have HOW := Lib.hid (show wc.ownsRow (w.heap.size + 1) 39 3 u7 i (encW (dirs c at_ i)) from by have := HOC.out; unfold OW at this; rw [dirs_len] at this; exact this)
        clear HO HX HB HBC HOC
        go_wp2_with (at_builtin; go_loud (refine wpList_append_own_at _ rfl (.tmp 35) (.tmp 40) 22 rfl (w.heap.size + 1) 39 i0 _ 3 24 Try.underlying22 HI.out HZ.out.1 HZ.out.2.1 HZ.out.2.2 rfl (by decide) u7 i (encW (dirs c at_ i)) rfl (HOW.out.alloc _) ⟨wc.heap.size, 0, none⟩ 1 1 [.int .i64 i, .int .i64 a, .bool b] rfl rfl (World.news_of_block (cs := #[.int .i64 i, .int .i64 a, .bool b]) (t := 39) (fr := (0, 0)) (heap_alloc_new wc _)) (by intro u hu; simp at hu; rcases hu with rfl | rfl | rfl <;> rfl) (by unfold maxLen; omega) (by omega) (by have := HSC.out; simp; omega) ?_; intro v1 w5 hown1 hgrow1 _ hat1))
        have hz : (wc.alloc (.cells #[.int .i64 i, .int .i64 a, .bool b] 39)).heap.size = wc.heap.size + 1 := by simp
        have HB5 := Lib.hid ((HBB.out.alloc HBB.out.size _).grown hgrow1 (by rw [hz]; have := HSC.out; omega) (fun g e => by have := (HOW.out.lt g e).1; omega))
        have HX5 := Lib.hid (HXC.out.of_block (w' := w5) (by have := hgrow1.size; omega) ((hgrow1.block w.heap.size (by rw [hz]; have := HSC.out; omega) (fun e => by have := (HOW.out.lt _ e.symm).1; omega)).trans ((hp.below_alloc wc _).block _ HXC.out.1)))
        have HO5 := Lib.hid (show OW w5 (w.heap.size + 1) 39 v1 (dirs c at_ (i + 1)) from by
          unfold OW
          rw [HDS.out, List.length_append, dirs_len, encW_app]
          exact hown1)
        clear hown1 hgrow1 hat1 hz
        go_roundg (gJ - 1)
        case measure => omega
        case rel => exact ⟨i + 1, by go_num, by omega, HO5, HX5, HB5⟩
    · have hin : i = n := by omega
      subst hin
      by_cases hf : file = 0
      · subst hf
        have HWE := Lib.hid (show wantsL c at_ 0 = dirs c at_ i from by rw [HWL.out]; simp)
        have HOR := Lib.hid (order_own HO.out (by rw [← HWE.out]; exact HWF.out) (by rw [dirs_len]; omega))
        go_wp2_with fail
        refine HOR.out.mono ?_
        rintro _ w2 ⟨v, o, rfl, hord, how, hb⟩
        have HF := Lib.hid (show OrdE w (wantsL c at_ 0) (.returned v) w2 from ⟨v, o, rfl, by rw [HWE.out]; exact hord, how.weak HB.out.size, hp.below_step HB.out hb⟩)
        clear hord how hb HOR
        go_wp2_with fail
        go_ret
        exact HF.out
      · have hf2 : (file == 0) = false := by simpa using hf
        have HWE := Lib.hid (show wantsL c at_ file = dirs c at_ i ++ [⟨i, file, c.wf⟩] from by rw [HWL.out, if_pos hf])
        obtain ⟨k0, k1, k2, k3, k4, k5, k6⟩ := HX.out.all
        have HK := Lib.hid (fun W => wf_any c W)
        unfold RetB at HK
        obtain ⟨b, hb⟩ : ∃ b, c.wf = b := ⟨_, rfl⟩
        rw [hb] at HK HWE
        clear hf hb
        go_wp2_with fail
        refine (HK.out _).mono ?_
        rintro _ wc ⟨rfl, hbc⟩
        have HOC := Lib.hid (HO.out.keep (w' := wc) fun g e => hbc.block g (HO.out.olt e).2)
        have HBB := Lib.hid (hp.below_step HB.out hbc)
        have HSC := Lib.hid (show w.heap.size + 1 ≤ wc.heap.size from Nat.le_trans HSW.out hbc.size)
        have HOW := Lib.hid (show wc.ownsRow (w.heap.size + 1) 39 3 u7 i (encW (dirs c at_ i)) from by have := HOC.out; unfold OW at this; rw [dirs_len] at this; exact this)
        clear HO HX HB hbc HOC k0 k1 k2 k3 k4 k5 k6 HK
        go_wp2_with (at_builtin; go_loud (refine wpList_append_own_at _ rfl (.tmp 45) (.tmp 52) 22 rfl (w.heap.size + 1) 39 i0 _ 3 24 Try.underlying22 HI.out HZ.out.1 HZ.out.2.1 HZ.out.2.2 rfl (by decide) u7 i (encW (dirs c at_ i)) rfl (HOW.out.alloc _) ⟨wc.heap.size, 0, none⟩ 1 1 [.int .i64 i, .int .i64 file, .bool b] rfl rfl (World.news_of_block (cs := #[.int .i64 i, .int .i64 file, .bool b]) (t := 39) (fr := (0, 0)) (heap_alloc_new wc _)) (by intro u hu; simp at hu; rcases hu with rfl | rfl | rfl <;> rfl) (by unfold maxLen; omega) (by omega) (by have := HSC.out; simp; omega) ?_; intro v1 w5 hown1 hgrow1 _ hat1))
        have hz : (wc.alloc (.cells #[.int .i64 i, .int .i64 file, .bool b] 39)).heap.size = wc.heap.size + 1 := by simp
        have HB5 := Lib.hid ((HBB.out.alloc HBB.out.size _).grown hgrow1 (by rw [hz]; have := HSC.out; omega) (fun g e => by have := (HOW.out.lt g e).1; omega))
        have HOR := Lib.hid (show Calls Try.prog 10 #[v1] w5 (OrdE w5 (wantsL c at_ file)) from order_own (lo := w.heap.size + 1) (by
          unfold OW
          rw [HWE.out, List.length_append, dirs_len, encW_app]
          exact hown1) HWF.out (by have := HLL.out; omega))
        clear hown1 hgrow1 hat1 hz
        go_wp2_with fail
        refine HOR.out.mono ?_
        rintro _ w2 ⟨v, o, rfl, hord, how, hb⟩
        have HF := Lib.hid (show OrdE w (wantsL c at_ file) (.returned v) w2 from ⟨v, o, rfl, hord, how.weak HB5.out.size, hp.below_step HB5.out hb⟩)
        clear hord how hb HOR
        go_wp2_with fail
        go_ret
        exact HF.out
end Go.Proofs.Ytlplbpilpkmoaaa.pl
