/- 'play': a directory that came of acts. -/
import Derived.Test.YtchjidijgdkhoaaAwake
import Derived.Test.YtchjidijgdkhoaaActs
import Derived.StillTailTactics
namespace Go.Proofs.Ytchjidijgdkhoaa
open Go.RowKit Go.Shelf
set_option linter.unusedVariables false

def act1 (L : List En) (a : Act3) : List En := if a.kind = 0 then lsetE a.name a.ino L else if a.kind = 1 then ldel a.name L else L
def playL (F : Nat → Act3) : Nat → List En
  | 0 => []
  | k + 1 => act1 (playL F k) (F k)
theorem act1_length (L : List En) (a : Act3) : (act1 L a).length ≤ L.length + 1 := by
  unfold act1
  split
  · exact lsetE_length _ _ _
  · split
    · exact Nat.le_succ_of_le (ldel_length _ _)
    · omega
theorem playL_length (F : Nat → Act3) (k : Nat) : (playL F k).length ≤ k := by
  induction k with
  | zero => exact Nat.le_refl _
  | succ k ih => have := act1_length (playL F k) (F k); show (act1 _ _).length ≤ _; omega
def PlayE (w0 : World) (L : List En) (e : Ending) (w' : World) : Prop := ∃ D, e = .returned (Pq D) ∧ DirX w0 w' D No L

set_option maxHeartbeats 4000000 in
theorem play_any (A : Option Addr) (n c : Nat) (F : Nat → Act3) (w0 w : World) (hn : n ≤ maxLen) (hF : Acts w0 w0.heap.size A n F) (hb : Below w0.heap.size w0 w) :
    Calls Try.prog 21 #[.slice A n c] w (PlayE w0 (playL F (min n 100))) := by
  have hnm : n ≤ 9223372036854775807 := hn
  have HA := Lib.hid hF
  clear hn hF
  go_enter Try.func21, Try.ntmps21
  go_wp2_with fail
  refine (x_new hb).mono ?_
  rintro e w1 ⟨rfl, h1, hb1⟩
  generalize w.heap.size = D at h1 hb1 ⊢
  have H1 := Lib.hid h1.forget
  clear h1 hb1 hb
  go_wp2_with fail
  go_loopg [4] 100 (fun g s4 wr => ∃ k : Nat, g + k = 100 ∧ k ≤ n ∧ s4 = .int .i64 k ∧ Hid (DirX w0 wr D No (playL F k)))
  case atStart => exact ⟨0, by omega, by omega, rfl, H1⟩
  case round =>
    clear H1
    obtain ⟨k, hgk, hk, rfl, HD⟩ := hrel
    have hk100 : k ≤ 100 := by omega
    have hlen := playL_length F k
    by_cases hgo : k < n ∧ k < 100
    · obtain ⟨hkn, hk2⟩ := hgo
      have hbr := HD.out.bel
      obtain ⟨b, off, rfl, hbl, f0, f1, f2, hsz⟩ := (HA.out.below hbr) k hkn
      have HSZ : (F k).name.size ≤ 9223372036854775807 := hsz
      have hblr : b < wr.heap.size := Nat.lt_of_lt_of_le hbl hbr.size
      have HP : Hid (playL F (k + 1) = act1 (playL F k) (F k)) := Lib.hid rfl
      generalize hK2 : playL F (k + 1) = K2 at *
      have HK2 := Lib.hid hK2
      clear hK2
      generalize F k = x at *
      obtain ⟨xk, xs, xi⟩ := x
      dsimp only at f0 f1 f2 HSZ
      clear hsz hbr
      by_cases h0 : xk = 0
      · subst h0
        have HS := Lib.hid (fun W (hd : DirX w0 W D No (playL F k)) => x_set hd (by omega) xs xi HSZ)
        have hK : K2 = lsetE xs xi (playL F k) := HP.out.trans (by unfold act1; rw [if_pos rfl])
        have HK := Lib.hid hK
        rw [← hK] at HS
        have HDd := Lib.hid HD.out.drew
        have f1' : wr.drew.cell? ⟨b, off + k * 3 + 1, none⟩ = some (.string xs) := f1
        have f2' : wr.drew.cell? ⟨b, off + k * 3 + 2, none⟩ = some (.int .i64 xi) := f2
        clear hK HP hlen
        go_upto_region 7 with fail
        go_still_tail 11, (by kernel_rfl)
        change wpList _ _ _ _ _ wr.drew
        generalize wr.drew = w2 at *
        go_wp2_with fail
        refine (HS.out _ HDd.out).mono ?_
        rintro e w3 ⟨rfl, h3, -⟩
        have H3 := Lib.hid h3
        clear h3 HS HDd
        go_wp2_with fail
        go_roundg (gk - 1)
        case measure => omega
        case rel => exact ⟨k + 1, by omega, by omega, by go_num, Lib.hid (by rw [HK2.out]; exact H3.out)⟩
      · by_cases h1 : xk = 1
        · subst h1
          have HS := Lib.hid (x_del HD.out (by omega) xs)
          have hK : K2 = ldel xs (playL F k) := HP.out.trans (by unfold act1; rw [if_neg (show ¬ (1 : Int) = 0 by decide), if_pos rfl])
          have HK := Lib.hid hK
          rw [← hK] at HS
          generalize getV xs (playL F k) = vv at *
          clear hK HP hlen h0
          go_wp2_with fail
          refine HS.out.mono ?_
          rintro e w3 ⟨rfl, h3, -⟩
          have H3 := Lib.hid h3
          clear h3 HS
          go_wp2_with fail
          go_roundg (gk - 1)
          case measure => omega
          case rel => exact ⟨k + 1, by omega, by omega, by go_num, Lib.hid (by rw [HK2.out]; exact H3.out)⟩
        · have hK : K2 = playL F k := HP.out.trans (by unfold act1; rw [if_neg h0, if_neg h1])
          have HK := Lib.hid hK
          have b0 : (xk == 0) = false := by simpa using h0
          have b1 : (xk == 1) = false := by simpa using h1
          have HX0 := Lib.hid h0
          have HX1 := Lib.hid h1
          clear hK HP hlen h0 h1
          go_wp2_with fail
          go_roundg (gk - 1)
          case measure => omega
          case rel => exact ⟨k + 1, by omega, by omega, by go_num, Lib.hid (by rw [HK2.out, HK.out]; exact HD.out)⟩
    · have HE := Lib.hid (show PlayE w0 (playL F (min n 100)) (.returned (Pq D)) wr from ⟨D, rfl, by rw [show min n 100 = k by omega]; exact HD.out⟩)
      have hsplit : (k < n ∧ k = 100) ∨ ¬ k < n := by omega
      clear hgo hlen
      rcases hsplit with ⟨hkn, rfl⟩ | hkn
      all_goals
        go_wp2_with fail
        go_ret
        exact HE.out

end Go.Proofs.Ytchjidijgdkhoaa
