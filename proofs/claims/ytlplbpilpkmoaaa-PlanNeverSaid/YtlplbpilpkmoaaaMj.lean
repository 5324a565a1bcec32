/- 'admit'. -/
import Derived.Test.YtlplbpilpkmoaaaMe
import Derived.Deep.RegionHeld3
import Derived.Deep.RegionWith
import Derived.Deep.CutRange
namespace Go.Proofs.Ytlplbpilpkmoaaa.sc
open Go.RowKit Go.Shelf
set_option linter.unusedVariables false
set_option linter.unusedSimpArgs false

def sdA (s : Sd) (l : Int) (L : List Cl) (T : Tk) : Sd := { s with T := T, cl := upc s.cl l L }
def AdmE (w0 w : World) (P B M : Nat) (tg : Nat → Tag) (f : Int → Option Value) (s : Sd) (e : Ending) (w' : World) : Prop := e = .returned (.tuple #[]) ∧ SbX w0 w' P B M tg f s ∧ Only (fun b => tg b ≠ .no) w w'
theorem sdA_self (s : Sd) (l : Int) : sdA s l (s.cl l) s.T = s := by unfold sdA; rw [upc_id]
theorem adm_held {pre r : List Cl} {c : Cl} {T : Tk} (h : c.held = true) : adm pre (c :: r) T = adm (pre ++ [c]) r T := by rw [adm, if_pos h]
theorem adm_fit {pre r : List Cl} {c : Cl} {T : Tk} (h : c.held = false) (hf : fitsB pre c = true) : adm pre (c :: r) T = adm (pre ++ [c.hold]) r ((T.add c.task 1).put c.task 0) := by rw [adm, if_neg (by simp [h]), if_pos hf]
theorem adm_no {pre r : List Cl} {c : Cl} {T : Tk} (h : c.held = false) (hf : fitsB pre c = false) : adm pre (c :: r) T = (pre ++ c :: r, T) := by rw [adm, if_neg (by simp [h]), if_neg (by simp [hf])]
theorem fitsB_pos {pre : List Cl} {c : Cl} (h : 0 < pre.length) : fitsB pre c = (!c.write && !(g pre 0).write) := by
  cases pre with
  | nil => simp at h
  | cons a r => rfl
theorem g_pre {pre r : List Cl} (h : 0 < pre.length) : g (pre ++ r) 0 = g pre 0 := by
  cases pre with
  | nil => simp at h
  | cons a t => rfl
theorem set_mid {pre r : List Cl} {c d : Cl} : (pre ++ c :: r).set pre.length d = (pre ++ [d]) ++ r := by simp
section
variable {w0 w : World} {P B M : Nat} {tg : Nat → Tag} {f : Int → Option Value} {s : Sd}
theorem SbX.held {pre rest : List Cl} {x : Cl} {T : Tk} {l : Int} {G c n k : Nat} (h : SbX w0 w P B M tg f (sdA s l (pre ++ x :: rest) T)) (hv : (f l).getD (.slice none 0 0) = .slice (some ⟨G, 0, none⟩) n c) (hn : pre.length + (x :: rest).length = n) (hG : tg G = .row l) (hq : QRow w G c (pre ++ x :: rest)) (hk : pre.length = k) :
    SbX w0 (w.setCell ⟨G, k * 3 + 2, none⟩ (.bool true)) P B M tg f (sdA s l ((pre ++ [x.hold]) ++ rest) T) := by
  have e1 : (sdA s l (pre ++ x :: rest) T).cl l = pre ++ x :: rest := upc_self _ _ _
  have hl : (pre ++ x :: rest).length = n := by rw [List.length_append]; exact hn
  have hkl : k < (pre ++ x :: rest).length := by rw [List.length_append, List.length_cons]; omega
  have hq2 := hq.hold hkl
  rw [show g (pre ++ x :: rest) k = x by rw [← hk]; exact g_app, ← hk, set_mid] at hq2
  have := h.turnR (l := l) (G := G) (c := c) (ys := (pre ++ [x.hold]) ++ rest) (w' := w.setCell ⟨G, k * 3 + 2, none⟩ (.bool true)) (by rw [e1, hl]; exact hv) hG (only_cell w ⟨G, k * 3 + 2, none⟩ _) (by rw [← hk]; exact hq2) (by rw [e1]; simp) (fun d hd => by
    have hf := h.fit l
    rw [e1] at hf
    rcases List.mem_append.1 hd with h1 | h1
    · rcases List.mem_append.1 h1 with h2 | h2
      · exact hf d (by simp [h2])
      · simp at h2; subst h2; exact hf x (by simp)
    · exact hf d (by simp [h1]))
  have e2 : (sdA s l (pre ++ x :: rest) T).setL l ((pre ++ [x.hold]) ++ rest) = sdA s l ((pre ++ [x.hold]) ++ rest) T := by
    unfold Sd.setL sdA
    simp only [upc_upc]
  rw [e2] at this
  exact this
theorem admit_nil (h : SbX w0 w P B M tg f s) {l : Int} (hl : Wf l) {c : Nat} (hv : (f l).getD (.slice none 0 0) = .slice none 0 c) : Calls Try.prog 36 #[Pq P, .int .i64 l] w (AdmE w0 w P B M tg f s) := by
  have p1 := h.p1
  have hL := h.look hl
  rw [hv] at hL
  have HF := Lib.hid (show AdmE w0 w P B M tg f s (.returned (.tuple #[])) w from ⟨rfl, h, Only.refl _ _⟩)
  clear h hl hv
  go_enter Try.func36, Try.ntmps36
  go_wp2_with fail
  go_loopg [15] 0 (fun gk s15 wr => s15 = .int .i64 0 ∧ gk = 0 ∧ wr = w)
  case atStart => exact ⟨rfl, rfl, rfl⟩
  case round =>
    obtain ⟨rfl, rfl, rfl⟩ := hrel
    go_wp2_with fail
    go_end0
    exact HF.out
set_option maxHeartbeats 4000000 in
theorem admit_some (h : SbX w0 w P B M tg f s) (hN : s.N ≤ 1000000) {l : Int} (hl : Wf l) {G c : Nat} (hv : (f l).getD (.slice none 0 0) = .slice (some ⟨G, 0, none⟩) (s.cl l).length c) (hG : tg G = .row l) : Calls Try.prog 36 #[Pq P, .int .i64 l] w (AdmE w0 w P B M tg f (s.admit l)) := by
  have p1 := h.p1
  have hL := h.look hl
  have hfew := h.few l
  rw [hv] at hL
  have HADM := Lib.hid (show s.admit l = sdA s l (adm [] (s.cl l) s.T).1 (adm [] (s.cl l) s.T).2 from rfl)
  have HX0 := Lib.hid (show SbX w0 w P B M tg f (sdA s l ([] ++ s.cl l) s.T) by rw [List.nil_append, sdA_self]; exact h)
  obtain ⟨n, hn⟩ : ∃ n, (s.cl l).length = n := ⟨_, rfl⟩
  rw [hn] at hv hL hfew
  have HN := Lib.hid hn
  have HV := Lib.hid hv
  have HG := Lib.hid hG
  generalize s.admit l = sE at *
  clear hn hv hG h hl
  go_enter Try.func36, Try.ntmps36
  go_wp2_with fail
  go_loopg [15] n (fun gk s15 wr => ∃ (k : Nat) (pre rest : List Cl) (T : Tk), s15 = .int .i64 k ∧ gk + k = n ∧ pre.length = k ∧ Hid (pre.length + rest.length = n) ∧ Hid (SbX w0 wr P B M tg f (sdA s l (pre ++ rest) T)) ∧ Hid (adm pre rest T = adm [] (s.cl l) s.T) ∧ Hid (Only (fun b => tg b ≠ .no) w wr))
  case atStart => exact ⟨0, [], s.cl l, s.T, rfl, by omega, rfl, Lib.hid (by simpa using HN.out), HX0, Lib.hid rfl, Lib.hid (Only.refl _ _)⟩
  case round =>
    clear HX0 p1 hL
    obtain ⟨k, pre, rest, T, rfl, hg, hpre, HLEN, HX, HA, HO⟩ := hrel
    have HPRE := Lib.hid hpre
    clear hpre
    have HFIN := Lib.hid (fun w' L K (hx : SbX w0 w' P B M tg f (sdA s l L K)) (ho : Only (fun b => tg b ≠ .no) w w') (e : adm [] (s.cl l) s.T = (L, K)) => (show AdmE w0 w P B M tg f sE (.returned (.tuple #[])) w' from ⟨rfl, by rw [HADM.out, e]; exact hx, ho⟩))
    cases rest with
    | nil =>
      have hkn : k = n := by have := HLEN.out; have := HPRE.out; simp at *; omega
      have HF := Lib.hid (HFIN.out wr pre T (by have := HX.out; rw [List.append_nil] at this; exact this) HO.out (by rw [← HA.out]; rfl))
      clear HFIN
      go_wp2_with fail
      go_end0
      exact HF.out
    | cons x rest =>
      have hkn : k < n := by have := HLEN.out; have := HPRE.out; simp at *; omega
      have hXR := HX.out.row l
      obtain ⟨o, c', hv', hs, ht⟩ := hXR
      have e1 : (sdA s l (pre ++ x :: rest) T).cl l = pre ++ x :: rest := upc_self _ _ _
      rw [e1] at hv' hs
      rw [HV.out] at hv'
      cases o with
      | none => exact absurd hv' (by simp)
      | some G' =>
        injection hv' with q1 q2 q3
        injection q1 with q1
        injection q1 with q1
        subst q1; subst q3
        have HS := Lib.hid (show QRow wr G c (pre ++ x :: rest) from hs)
        have ha := HS.out.at_ (i := k) (by rw [← q2]; exact hkn)
        rw [show g (pre ++ x :: rest) k = x by rw [← HPRE.out]; exact g_app] at ha
        clear ht e1 hs q2
        obtain ⟨xk, xw, xh⟩ := x
        have f0 := ha.k
        have f1 := ha.t
        have f2 := ha.m
        dsimp only at f0 f1 f2
        clear ha
        have hal := below_alloc wr (.cells #[.int .i64 (xk : Int), .bool xw, .bool xh] 80)
        have HAL := Lib.hid hal
        clear hal
        cases xh with
        | true =>
          have HA2 := Lib.hid (show adm (pre ++ [⟨xk, xw, true⟩]) rest T = adm [] (s.cl l) s.T by rw [← HA.out]; exact (adm_held rfl).symm)
          have HX2 := Lib.hid (HX.out.below HAL.out)
          have HO2 := Lib.hid (HO.out.trans (Only.of_below HAL.out))
          clear HFIN
          go_wp2_with fail
          go_roundg (gk - 1)
          case measure => omega
          case rel => exact ⟨k + 1, pre ++ [⟨xk, xw, true⟩], rest, T, by go_num, by omega, by simp [HPRE.out], Lib.hid (by have := HLEN.out; simp at *; omega), by rw [List.append_assoc]; exact HX2, HA2, HO2⟩
        | false =>
          obtain ⟨w1, hw1⟩ : ∃ w1, wr.alloc (.cells #[.int .i64 (xk : Int), .bool xw, .bool false] 80) = w1 := ⟨_, rfl⟩
          have S1 : (wr.alloc (.cells #[.int .i64 (xk : Int), .bool xw, .bool false] 80)).drew.cell? ⟨wr.heap.size, 0, none⟩ = some (.int .i64 (xk : Int)) ∧ (wr.alloc (.cells #[.int .i64 (xk : Int), .bool xw, .bool false] 80)).drew.cell? ⟨wr.heap.size, 1, none⟩ = some (.bool xw) ∧ (wr.alloc (.cells #[.int .i64 (xk : Int), .bool xw, .bool false] 80)).drew.cell? ⟨wr.heap.size, 2, none⟩ = some (.bool false) := by
            refine ⟨?_, ?_, ?_⟩
            all_goals (show World.cell? (wr.alloc _) _ = _; simp)
          obtain ⟨bf, hbf⟩ : ∃ b, fitsB pre ⟨xk, xw, false⟩ = b := ⟨_, rfl⟩
          have HBF := Lib.hid hbf
          have hcap : k ≤ c := by have := (HS.out).1; have := HPRE.out; simp at *; omega
          have HFT := Lib.hid (show Calls Try.prog 44 #[.slice (some ⟨G, 0, none⟩) k c, Cv xk xw false] (wr.alloc (.cells #[.int .i64 (xk : Int), .bool xw, .bool false] 80)).drew (RetB (wr.alloc (.cells #[.int .i64 (xk : Int), .bool xw, .bool false] 80)).drew bf) from by
            rcases Nat.eq_zero_or_pos k with hk | hk
            · have : pre = [] := List.eq_nil_of_length_eq_zero (HPRE.out.trans hk)
              subst this
              subst hk
              rw [← hbf]
              exact fits_nil _ _ _ _ _ _
            · rw [← hbf, fitsB_pos (by rw [HPRE.out]; exact hk)]
              have hq := HS.out.at_ (i := 0) (by simp only [List.length_append, List.length_cons]; omega)
              rw [g_pre (by rw [HPRE.out]; exact hk)] at hq
              have hGl := QRow.lt HS.out
              exact fits_some G k c xk xw false _ _ hk hcap (by omega) (((HAL.out).drew.cell (p := ⟨G, 1, none⟩) hGl).trans hq.t))
          clear hbf hw1
          have HS5 := Lib.hid (show ∀ w5, Below (wr.alloc (.cells #[.int .i64 (xk : Int), .bool xw, .bool false] 80)).drew.heap.size (wr.alloc (.cells #[.int .i64 (xk : Int), .bool xw, .bool false] 80)).drew w5 → w5.cell? ⟨wr.heap.size, 0, none⟩ = some (.int .i64 (xk : Int)) ∧ w5.cell? ⟨wr.heap.size, 1, none⟩ = some (.bool xw) ∧ w5.cell? ⟨wr.heap.size, 2, none⟩ = some (.bool false) from fun w5 hb5 => by
            have hlt : wr.heap.size < (wr.alloc (.cells #[.int .i64 (xk : Int), .bool xw, .bool false] 80)).drew.heap.size := by show _ < (wr.alloc _).heap.size; simp
            exact ⟨(hb5.cell (p := ⟨wr.heap.size, 0, none⟩) hlt).trans S1.1, (hb5.cell (p := ⟨wr.heap.size, 1, none⟩) hlt).trans S1.2.1, (hb5.cell (p := ⟨wr.heap.size, 2, none⟩) hlt).trans S1.2.2⟩)
          have HBX := Lib.hid (show ∀ w5, Below (wr.alloc (.cells #[.int .i64 (xk : Int), .bool xw, .bool false] 80)).drew.heap.size (wr.alloc (.cells #[.int .i64 (xk : Int), .bool xw, .bool false] 80)).drew w5 → Below wr.heap.size wr w5 from fun w5 hb5 => below_step HAL.out.drew hb5)
          cases bf with
          | false =>
            have HF := Lib.hid (fun w' (hb : Below wr.heap.size wr w') => HFIN.out w' (pre ++ ⟨xk, xw, false⟩ :: rest) T (HX.out.below hb) (HO.out.trans (Only.of_below hb)) (by rw [← HA.out]; exact adm_no rfl HBF.out))
            clear HFIN
            go_upto_region 5 with fail
            go_region_held3 (fun W => W.cell? ⟨wr.heap.size, 0, none⟩ = some (.int .i64 (xk : Int)) ∧ W.cell? ⟨wr.heap.size, 1, none⟩ = some (.bool xw) ∧ W.cell? ⟨wr.heap.size, 2, none⟩ = some (.bool false)) (first | with_reducible exact S1 | with_reducible exact S5 | assumption | go_keep) ((go_at_call 44; ((with_reducible refine HFT.out.mono ?_); rintro _ w5 ⟨rfl, hb5⟩; have HB5 := Lib.hid (HBX.out w5 hb5); have S5 := HS5.out w5 hb5; clear hb5)))
            all_goals
              go_wp2_with fail
              refine bodyPost_ret (v := .tuple #[]) (by simp [results]) rfl ?_
              exact HF.out _ HB5.out
          | true =>
            have HTK := Lib.hid (show xk < s.n from HX.out.fit l ⟨xk, xw, false⟩ (by show _ ∈ upc s.cl l _ l; rw [upc_self]; simp))
            go_upto_region 5 with fail
            go_region_held3 (fun W => W.cell? ⟨wr.heap.size, 0, none⟩ = some (.int .i64 (xk : Int)) ∧ W.cell? ⟨wr.heap.size, 1, none⟩ = some (.bool xw) ∧ W.cell? ⟨wr.heap.size, 2, none⟩ = some (.bool false)) (first | with_reducible exact S1 | with_reducible exact S5 | assumption | go_keep) ((go_at_call 44; ((with_reducible refine HFT.out.mono ?_); rintro _ w5 ⟨rfl, hb5⟩; have HB5 := Lib.hid (HBX.out w5 hb5); have S5 := HS5.out w5 hb5; clear hb5)))
            all_goals
              have HX5 := Lib.hid (HX.out.below HB5.out)
              have HQ5 := Lib.hid (HS.out.of_block (HB5.out.block G (QRow.lt HS.out)))
              have hq2 := (HQ5.out.at_ (i := k) (by have := HPRE.out; simp only [List.length_append, List.length_cons]; omega)).m
              rw [show g (pre ++ ⟨xk, xw, false⟩ :: rest) k = ⟨xk, xw, false⟩ by rw [← HPRE.out]; exact g_app] at hq2
              dsimp only at hq2
              have hfz := HQ5.out.frozen
              obtain ⟨w6, hw6⟩ : ∃ w6, w5.setCell ⟨G, k * 3 + 2, none⟩ (.bool true) = w6 := ⟨_, rfl⟩
              have HX6 := Lib.hid (HX5.out.held HV.out HLEN.out HG.out HQ5.out HPRE.out)
              rw [hw6] at HX6
              have HGl := Lib.hid (QRow.lt HS.out)
              have b0 : w6.cell? ⟨wr.heap.size, 0, none⟩ = some (.int .i64 (xk : Int)) := by
                rw [← hw6, World.cell?_setCell_other _ _ _ _ (fun e => by have h1 := congrArg Addr.block e; have h2 := HGl.out; simp at h1; omega)]
                exact S5.1
              have HO6 := Lib.hid (show Only (fun b => tg b ≠ .no) w w6 from by
                rw [← hw6]
                exact (HO.out.trans (Only.of_below HB5.out)).trans ((only_cell w5 ⟨G, k * 3 + 2, none⟩ (.bool true)).mono fun b e => by rw [show b = G from e, HG.out]; simp))
              clear S5 S1
              go_upto_region 7 with fail
              clear hw6 hq2 hfz
              have p0 := HX6.out.p0
              have t1 := (HX6.out.tsk.1 xk HTK.out).2
              have tf := HX6.out.tsk.2
              have n64 := HX6.out.n64
              have hxs := HTK.out
              change w6.cell? ⟨P, 0, none⟩ = some (.slice (some ⟨B, 0, none⟩) s.n s.n) at p0
              change w6.cell? ⟨B, xk * 2 + 1, none⟩ = some (.int .i64 (T.lk xk)) at t1
              change s.n ≤ 64 at n64
              obtain ⟨w7, hw7⟩ : ∃ w7, (w6.setCell ⟨B, xk * 2 + 1, none⟩ (.int .i64 (wrap64 (T.lk xk + 1)))).drew = w7 := ⟨_, rfl⟩
              have HBl := Lib.hid (show B ≠ wr.heap.size ∧ P ≠ wr.heap.size ∧ P ≠ B from ⟨fun e => by have := (HX.out.own B (by rw [HX.out.tB]; simp)).2; omega, fun e => by have := (HX.out.own P (by rw [HX.out.tP]; simp)).2; omega, HX.out.ne.1⟩)
              have HX7 := Lib.hid (show SbX w0 w7 P B M tg f (sdA s l ((pre ++ [Cl.hold ⟨xk, xw, false⟩]) ++ rest) (T.add xk 1)) from by
                rw [← hw7]
                exact (HX6.out.turnT (only_cell w6 ⟨B, xk * 2 + 1, none⟩ (.int .i64 (wrap64 (T.lk xk + 1)))) (HX6.out.tsk.add HTK.out 1)).below (Below.refl _ _).drew)
              have HO7 := Lib.hid (show Only (fun b => tg b ≠ .no) w w7 from by
                rw [← hw7]
                exact (HO6.out.trans ((only_cell w6 ⟨B, xk * 2 + 1, none⟩ _).mono fun b e => by rw [show b = B from e, HX6.out.tB]; simp)).trans (Only.of_below (Below.refl _ _).drew))
              have d0 : w7.cell? ⟨wr.heap.size, 0, none⟩ = some (.int .i64 (xk : Int)) := by
                rw [← hw7]
                show (w6.setCell _ _).cell? _ = _
                rw [World.cell?_setCell_other _ _ _ _ (fun e => by have h1 := congrArg Addr.block e; have h2 := HBl.out.1; simp at h1; omega)]
                exact b0
              have q0 := HX7.out.p0
              have q1 := (HX7.out.tsk.1 xk HTK.out).1
              have qf := HX7.out.tsk.2
              change w7.cell? ⟨P, 0, none⟩ = some (.slice (some ⟨B, 0, none⟩) s.n s.n) at q0
              have HX8 := Lib.hid (show SbX w0 (w7.setCell ⟨B, xk * 2, none⟩ (.int .i64 0)).drew P B M tg f (sdA s l ((pre ++ [Cl.hold ⟨xk, xw, false⟩]) ++ rest) ((T.add xk 1).put xk 0)) from
                (HX7.out.turnT (only_cell w7 ⟨B, xk * 2, none⟩ (.int .i64 0)) (HX7.out.tsk.put HTK.out 0)).below (Below.refl _ _).drew)
              have HO8 := Lib.hid (show Only (fun b => tg b ≠ .no) w (w7.setCell ⟨B, xk * 2, none⟩ (.int .i64 0)).drew from
                (HO7.out.trans ((only_cell w7 ⟨B, xk * 2, none⟩ _).mono fun b e => by rw [show b = B from e, HX7.out.tB]; simp)).trans (Only.of_below (Below.refl _ _).drew))
              have HA2 := Lib.hid (show adm (pre ++ [Cl.hold ⟨xk, xw, false⟩]) rest ((T.add xk 1).put xk 0) = adm [] (s.cl l) s.T by rw [← HA.out]; exact (adm_fit rfl HBF.out).symm)
              generalize s.n = q at p0 n64 hxs q0
              generalize T.lk xk = lk at *
              clear HFIN
              go_region
              all_goals
                clear hw7 p0 t1 tf b0
                generalize (sdA s l ((pre ++ [Cl.hold ⟨xk, xw, false⟩]) ++ rest) (T.add xk 1)).T.st xk = sx at *
                go_wp2_with fail
                go_region
                all_goals
                  go_wp2_with fail
                  go_roundg (gk - 1)
                  case measure => omega
                  case rel => exact ⟨k + 1, pre ++ [Cl.hold ⟨xk, xw, false⟩], rest, (T.add xk 1).put xk 0, by go_num, by omega, by simp [HPRE.out], Lib.hid (by have := HLEN.out; simp at *; omega), HX8, HA2, HO8⟩
theorem admit_any (h : SbX w0 w P B M tg f s) (hN : s.N ≤ 1000000) {l : Int} (hl : Wf l) : Calls Try.prog 36 #[Pq P, .int .i64 l] w (AdmE w0 w P B M tg f (s.admit l)) := by
  obtain ⟨o, c, h1, h2, h3⟩ := h.row l
  cases o with
  | none =>
    obtain ⟨e1, e2⟩ := h2
    have : s.admit l = s := by
      unfold Sd.admit
      rw [e1]
      show (⟨s.n, s.T, upc s.cl l [], s.N⟩ : Sd) = s
      rw [← e1, upc_id]
    rw [this]
    rw [e1] at h1
    exact admit_nil h hl h1
  | some G => exact admit_some h hN hl h1 (h3 G rfl)
end

end Go.Proofs.Ytlplbpilpkmoaaa.sc
