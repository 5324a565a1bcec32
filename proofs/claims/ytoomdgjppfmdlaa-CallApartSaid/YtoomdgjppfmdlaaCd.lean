/- A script's bytes: the code's Script and the document's. -/
import Derived.Test.YtoomdgjppfmdlaaCc
namespace Go.Proofs.Ytoomdgjppfmdlaa
open Go.RowKit
set_option linter.unusedVariables false
set_option linter.unusedSimpArgs false

def okS (L : List C) : Bool := decide (L.length ≤ 200) && L.all mayB
def scrB (L : List C) : Bs := if okS L = true then encs L else []
def errS (L : List C) : Int := if okS L = true then 0 else 22
def Lens (L : List C) : Prop := ∀ c ∈ L, c.a.length ≤ maxLen ∧ c.b.length ≤ maxLen
theorem okS_iff (L : List C) : okS L = true ↔ L.length ≤ 200 ∧ ∀ c ∈ L, May c := by
  unfold okS
  rw [Bool.and_eq_true, decide_eq_true_eq, List.all_eq_true]
  constructor
  · rintro ⟨h1, h2⟩; exact ⟨h1, fun c hc => of_decide_eq_true (h2 c hc)⟩
  · rintro ⟨h1, h2⟩; exact ⟨h1, fun c hc => decide_eq_true (h2 c hc)⟩
theorem scrB_yes {L : List C} (h : L.length ≤ 200) (h2 : ∀ c ∈ L, May c) : scrB L = encs L := if_pos ((okS_iff L).2 ⟨h, h2⟩)
theorem errS_yes {L : List C} (h : L.length ≤ 200) (h2 : ∀ c ∈ L, May c) : errS L = 0 := if_pos ((okS_iff L).2 ⟨h, h2⟩)
theorem scrB_long {L : List C} (h : 200 < L.length) : scrB L = [] := if_neg fun e => by have := ((okS_iff L).1 e).1; omega
theorem errS_long {L : List C} (h : 200 < L.length) : errS L = 22 := if_neg fun e => by have := ((okS_iff L).1 e).1; omega
theorem scrB_bad {L : List C} {c : C} (hc : c ∈ L) (h : ¬ May c) : scrB L = [] := if_neg fun e => h (((okS_iff L).1 e).2 c hc)
theorem errS_bad {L : List C} {c : C} (hc : c ∈ L) (h : ¬ May c) : errS L = 22 := if_neg fun e => h (((okS_iff L).1 e).2 c hc)
theorem encs_take (L : List C) (k : Nat) (h : k < L.length) : encs (L.take (k + 1)) = encs (L.take k) ++ enc L[k] := by
  rw [List.take_succ_eq_append_getElem h, encs_app]; simp [encs]
theorem may_take {L : List C} {k : Nat} (h : k < L.length) (h1 : ∀ c ∈ L.take k, May c) (h2 : May L[k]) : ∀ c ∈ L.take (k + 1), May c := by
  intro c hc
  rw [List.take_succ_eq_append_getElem h, List.mem_append] at hc
  rcases hc with hc | hc
  · exact h1 c hc
  · simp at hc; subst hc; exact h2

set_option maxHeartbeats 4000000 in
set_option maxRecDepth 100000 in
theorem scr_any (A : Option Addr) (n c : Nat) (L : List C) (w : World) (hn : n = L.length) (hN : n ≤ 1000000) (hL : Lens L) (h : Cls w w.heap.size A L) : Calls Try.prog 18 #[.slice A n c] w (EncE w (scrB L) (errS L)) := by
  by_cases hlong : 200 < n
  · rw [scrB_long (by omega), errS_long (by omega)]
    have hi : (200 : Int) < (n : Int) := by omega
    clear hn h hL
    go_enter Try.func18, Try.ntmps18
    go_wp2_with fail
    go_ret2
    exact ⟨none, 0, 0, rfl, Bo.nil _ _, Below.refl _ _⟩
  have hn2 : n ≤ 200 := by omega
  have hi : ¬ (200 : Int) < (n : Int) := by omega
  have HN := Lib.hid hn
  have HL := Lib.hid hL
  have HC := Lib.hid h
  clear hn h hL hlong
  go_enter Try.func18, Try.ntmps18
  go_wp2_with fail
  go_loopg [14, 4] n (fun g s14 s4 wr => ∃ (k m c' : Nat) (A' : Option Addr), g + k = n ∧ s14 = .int .i64 k ∧ s4 = .slice A' m c' ∧ m ≤ k * 135 ∧ Hid (Bo wr w.heap.size A' m c' (encs (L.take k))) ∧ Hid (∀ c ∈ L.take k, May c) ∧ Hid (Below w.heap.size w wr))
  case atStart => exact ⟨0, 0, 0, none, by omega, rfl, rfl, by omega, Lib.hid (Bo.nil _ _), Lib.hid (by simp), Lib.hid (Below.refl _ _)⟩
  case round =>
    obtain ⟨k, m, c', A', hgk, rfl, rfl, hm, HB, HM, HW⟩ := hrel
    by_cases hkn : k < n
    · have hk : k < L.length := by rw [← HN.out]; exact hkn
      obtain ⟨G, off, rfl, hG, f0, f1, f2, f3, f4, f5, f6⟩ := (HC.out.below HW.out).at_ hk
      have hla := HL.out _ (List.getElem_mem hk)
      have HE := Lib.hid (fun W => enc_any L[k] W hla.1 hla.2)
      have HT := Lib.hid (encs_take L k hk)
      have HMT := Lib.hid (fun h2 => may_take hk HM.out h2)
      have HBAD := Lib.hid (fun h2 => show scrB L = [] ∧ errS L = 22 from ⟨scrB_bad (List.getElem_mem hk) h2, errS_bad (List.getElem_mem hk) h2⟩)
      generalize L[k] = x at *
      by_cases hmay : May x
      · rw [encE_yes hmay, errE_yes hmay] at HE
        have hlen : (enc x).length ≤ 135 := by rw [enc_len]; have := hmay.2.2.2.2.2.1; have := hmay.2.2.2.2.2.2; omega
        have HMT2 := Lib.hid (HMT.out hmay)
        have HT2 := Lib.hid HT.out
        obtain ⟨y, hy⟩ : ∃ y, enc x = y := ⟨_, rfl⟩
        rw [hy] at HE HT2 hlen
        obtain ⟨op, fd, fl, n0, off0, a, b⟩ := x
        dsimp only at f0 f1 f2 f3 f4 f5 f6 hla
        have HX := Lib.hid (fun (ob : Obj) (w4 : World) (b4 : Below (wr.alloc ob).heap.size (wr.alloc ob) w4) => (show Below wr.heap.size wr w4 from below_step (below_alloc wr ob) b4))
        clear hk hla hmay HBAD hy HMT HT
        go_wp2_with fail
        refine (HE.out _).mono ?_
        rintro e w4 ⟨A4, n4, c4, rfl, o4, b4⟩
        have b5 := HX.out _ _ b4
        have hn4 : n4 = y.length := o4.len
        have hn5 : n4 ≤ 135 := by omega
        have HO4 := Lib.hid o4.byt
        have HB4 := Lib.hid (HB.out.keep b5)
        have HW4 := Lib.hid (below_step HW.out b5)
        have HL4 := Lib.hid hn4
        have HS4 := Lib.hid (HW4.out.size)
        clear o4 b4 b5 hn4 f0 f1 f2 f3 f4 f5 f6 HX HE
        go_wp2_with (at_builtin; refine wpList_app _ rfl (.tmp 26) (.tmp 27) rfl w.heap.size _ m n4 c' c4 A' A4 _ y (by rfl) (by rfl) HB4.out HL4.out HO4.out (by omega) HS4.out ?_; intro A5 c5 w5 o5 b5)
        have HB5 := Lib.hid (HT2.out ▸ o5)
        have HW5 := Lib.hid (HW4.out.trans b5)
        clear o5 b5
        go_wp2_with fail
        go_roundg (gk - 1)
        case measure => omega
        case rel => exact ⟨k + 1, m + n4, c5, A5, by omega, by go_num, rfl, by omega, HB5, HMT2, HW5⟩
      · rw [encE_no hmay, errE_no hmay] at HE
        rw [(HBAD.out hmay).1, (HBAD.out hmay).2]
        obtain ⟨op, fd, fl, n0, off0, a, b⟩ := x
        dsimp only at f0 f1 f2 f3 f4 f5 f6 hla
        have HX := Lib.hid (fun (ob : Obj) (w4 : World) (b4 : Below (wr.alloc ob).heap.size (wr.alloc ob) w4) => (show Below wr.heap.size wr w4 from below_step (below_alloc wr ob) b4))
        clear hk hla hmay HBAD HMT HT
        go_wp2_with fail
        refine (HE.out _).mono ?_
        rintro e w4 ⟨A4, n4, c4, rfl, o4, b4⟩
        have HW4 := Lib.hid (below_step HW.out (HX.out _ _ b4))
        clear o4 b4 f0 f1 f2 f3 f4 f5 f6 HX HE
        go_wp2_with fail
        try rw [Exit.noGoto_ret]
        go_ret2
        exact ⟨none, 0, 0, rfl, Bo.nil _ _, HW4.out⟩
    · have hk : k = n := by omega
      have hT : L.take k = L := List.take_of_length_le (by rw [← HN.out]; omega)
      rw [hT] at HB HM
      have hjn : ¬ ((k : Int) < (n : Int)) := by omega
      have HF := Lib.hid (show scrB L = encs L ∧ errS L = 0 from ⟨scrB_yes (by rw [← HN.out]; omega) HM.out, errS_yes (by rw [← HN.out]; omega) HM.out⟩)
      clear hk hT hkn
      go_wp2_with fail
      go_ret2
      rw [HF.out.1, HF.out.2]
      exact ⟨_, _, _, rfl, HB.out, HW.out⟩
set_option maxHeartbeats 4000000 in
set_option maxRecDepth 100000 in
theorem rscr_any (A : Option Addr) (n c : Nat) (L : List C) (w : World) (hn : n = L.length) (hN : n ≤ 1000000) (hL : Lens L) (h : Cls w w.heap.size A L) : Calls Try.prog 19 #[.slice A n c] w (EncE w (scrB L) (errS L)) := by
  by_cases hlong : 200 < n
  · rw [scrB_long (by omega), errS_long (by omega)]
    have hi : (200 : Int) < (n : Int) := by omega
    clear hn h hL
    go_enter Try.func19, Try.ntmps19
    go_wp2_with fail
    go_ret2
    exact ⟨none, 0, 0, rfl, Bo.nil _ _, below_alloc _ _⟩
  have hn2 : n ≤ 200 := by omega
  have hi : ¬ (200 : Int) < (n : Int) := by omega
  have HN := Lib.hid hn
  have HL := Lib.hid hL
  have HC := Lib.hid h
  clear hn h hL hlong
  go_enter Try.func19, Try.ntmps19
  go_wp2_with fail
  go_loopg [5, 4] n (fun g s14 s4 wr => ∃ (k m c' : Nat) (A' : Option Addr), g + k = n ∧ s14 = .int .i64 k ∧ s4 = .slice A' m c' ∧ m ≤ k * 135 ∧ Hid (Bo wr w.heap.size A' m c' (encs (L.take k))) ∧ Hid (∀ c ∈ L.take k, May c) ∧ Hid (Below w.heap.size w wr))
  case atStart => exact ⟨0, 0, 0, some ⟨w.heap.size, 0, none⟩, by omega, rfl, rfl, by omega, Lib.hid (by exact World.ownsRow_lit w #[] 0 (Nat.le_refl _) (by unfold maxLen; omega) rfl), Lib.hid (by simp), Lib.hid (below_alloc _ _)⟩
  case round =>
    obtain ⟨k, m, c', A', hgk, rfl, rfl, hm, HB, HM, HW⟩ := hrel
    by_cases hkn : k < n
    · have hk : k < L.length := by rw [← HN.out]; exact hkn
      obtain ⟨G, off, rfl, hG, f0, f1, f2, f3, f4, f5, f6⟩ := (HC.out.below HW.out).at_ hk
      have hla := HL.out _ (List.getElem_mem hk)
      have HE := Lib.hid (fun W => renc_any L[k] W hla.1 hla.2)
      have HT := Lib.hid (encs_take L k hk)
      have HMT := Lib.hid (fun h2 => may_take hk HM.out h2)
      have HBAD := Lib.hid (fun h2 => show scrB L = [] ∧ errS L = 22 from ⟨scrB_bad (List.getElem_mem hk) h2, errS_bad (List.getElem_mem hk) h2⟩)
      generalize L[k] = x at *
      by_cases hmay : May x
      · rw [encE_yes hmay, errE_yes hmay] at HE
        have hlen : (enc x).length ≤ 135 := by rw [enc_len]; have := hmay.2.2.2.2.2.1; have := hmay.2.2.2.2.2.2; omega
        have HMT2 := Lib.hid (HMT.out hmay)
        have HT2 := Lib.hid HT.out
        obtain ⟨y, hy⟩ : ∃ y, enc x = y := ⟨_, rfl⟩
        rw [hy] at HE HT2 hlen
        obtain ⟨op, fd, fl, n0, off0, a, b⟩ := x
        dsimp only at f0 f1 f2 f3 f4 f5 f6 hla
        have HX := Lib.hid (fun (ob : Obj) (w4 : World) (b4 : Below wr.heap.size wr w4) => b4)
        clear hk hla hmay HBAD hy HMT HT
        go_wp2_with fail
        refine (HE.out _).mono ?_
        rintro e w4 ⟨A4, n4, c4, rfl, o4, b4⟩
        have b5 := HX.out (.cells #[] 5) _ b4
        have hn4 : n4 = y.length := o4.len
        have hn5 : n4 ≤ 135 := by omega
        have HO4 := Lib.hid o4.byt
        have HB4 := Lib.hid (HB.out.keep b5)
        have HW4 := Lib.hid (below_step HW.out b5)
        have HL4 := Lib.hid hn4
        have HS4 := Lib.hid (HW4.out.size)
        clear o4 b4 b5 hn4 f0 f1 f2 f3 f4 f5 f6 HX HE
        go_wp2_with (at_builtin; refine wpList_app _ rfl (.tmp 29) (.tmp 30) rfl w.heap.size _ m n4 c' c4 A' A4 _ y (by rfl) (by rfl) HB4.out HL4.out HO4.out (by omega) HS4.out ?_; intro A5 c5 w5 o5 b5)
        have HB5 := Lib.hid (HT2.out ▸ o5)
        have HW5 := Lib.hid (HW4.out.trans b5)
        clear o5 b5
        go_wp2_with fail
        go_roundg (gk - 1)
        case measure => omega
        case rel => exact ⟨k + 1, m + n4, c5, A5, by omega, by go_num, rfl, by omega, HB5, HMT2, HW5⟩
      · rw [encE_no hmay, errE_no hmay] at HE
        rw [(HBAD.out hmay).1, (HBAD.out hmay).2]
        obtain ⟨op, fd, fl, n0, off0, a, b⟩ := x
        dsimp only at f0 f1 f2 f3 f4 f5 f6 hla
        have HX := Lib.hid (fun (ob : Obj) (w4 : World) (b4 : Below wr.heap.size wr w4) => b4)
        clear hk hla hmay HBAD HMT HT
        go_wp2_with fail
        refine (HE.out _).mono ?_
        rintro e w4 ⟨A4, n4, c4, rfl, o4, b4⟩
        have HW4 := Lib.hid (below_step HW.out (HX.out (.cells #[] 5) _ b4))
        clear o4 b4 f0 f1 f2 f3 f4 f5 f6 HX HE
        go_wp2_with fail
        try rw [Exit.noGoto_ret]
        go_ret2
        exact ⟨none, 0, 0, rfl, Bo.nil _ _, HW4.out⟩
    · have hk : k = n := by omega
      have hT : L.take k = L := List.take_of_length_le (by rw [← HN.out]; omega)
      rw [hT] at HB HM
      have hjn : ¬ ((k : Int) < (n : Int)) := by omega
      have HF := Lib.hid (show scrB L = encs L ∧ errS L = 0 from ⟨scrB_yes (by rw [← HN.out]; omega) HM.out, errS_yes (by rw [← HN.out]; omega) HM.out⟩)
      clear hk hT hkn
      go_wp2_with fail
      go_ret2
      rw [HF.out.1, HF.out.2]
      exact ⟨_, _, _, rfl, HB.out, HW.out⟩
end Go.Proofs.Ytoomdgjppfmdlaa
