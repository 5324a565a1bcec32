/- Part 24 of what is known of the program's functions and of the document's words: contracts, and the mathematics beneath them. -/
import Derived.Test.YtgoddboicjfkcaaGreatProg
import Derived.Test.YtgoddboicjfkcaaGreatZ23
set_option linter.unusedVariables false
set_option linter.unusedSimpArgs false
set_option maxRecDepth 100000
set_option maxHeartbeats 8000000
namespace Go.Proofs.YtgoddboicjfkcaaGreat.cb
open Go.RowKit
open br
open dn (En lget lset ldel nerr dotB Sorted getV DuX LaidX)
open bl (AB Only StoC Pq cut cutR wr WR U8 RF)
open bl.rx (RB RS2 Kp)
theorem rstore_yes (room : Nat) (w : World) (hr : room ≤ 65536) : Calls Tryz.prog 92 #[.int .i64 (room : Int)] w (fun e w' => e = .returned (Pq w.heap.size) ∧ w' = w.alloc (.cells #[.int .i64 (room : Int), .int .i64 0] 233)) := by
 have h1 : ¬ ((65536 : Int) < (room : Int)) := by omega
 have h0 : ¬ ((room : Int) < 0) := by omega
 go_enter Tryz.func92, Tryz.ntmps92
 go_wp2
 go_ret
 exact ⟨rfl, rfl⟩
def ino9 : List Value := [.int .i64 0, .int .i64 0, .int .i64 0, .int .i64 0, .int .i64 0, .slice none 0 0, .slice none 0 0, .slice none 0 0, .string ⟨#[]⟩]
theorem zero51 : Tryz.zeroCells149 = (.pointer none :: (List.replicate 201 ino9).flatten).toArray := by kernel_rfl
theorem flat_get {α : Type} (l : List α) (hl : l.length = 9) (n k i : Nat) (hk : k < n) (hi : i < 9) : (List.replicate n l).flatten[k * 9 + i]? = l[i]? := by
 induction n generalizing k with
 | zero => omega
 | succ n ih =>
  rw [List.replicate_succ, List.flatten_cons]
  cases k with
  | zero => rw [List.getElem?_append_left (by omega)]; congr 1; omega
  | succ k =>
   rw [List.getElem?_append_right (by omega), ← ih k (by omega)]
   congr 1
   omega
theorem flat_len {α : Type} (l : List α) (n : Nat) : (List.replicate n l).flatten.length = n * l.length := by
 induction n with
 | zero => simp
 | succ n ih => rw [List.replicate_succ, List.flatten_cons, List.length_append, ih, Nat.succ_mul]; omega
theorem zero51_at (k i : Nat) (hk : k ≤ 200) (hi : i < 9) : Tryz.zeroCells149[1 + k * 9 + i]? = ino9[i]? := by
 rw [zero51, List.getElem?_toArray, show 1 + k * 9 + i = (k * 9 + i) + 1 by omega, List.getElem?_cons_succ]
 exact flat_get ino9 rfl 201 k i (by omega) hi
theorem zero51_size : Tryz.zeroCells149.size = 1810 := by
 rw [zero51, List.size_toArray, List.length_cons, flat_len]
 rfl
theorem DI.blank {w : World} {lo D k : Nat} {a0 a1 a2 a3 a4 : Int} {t : ByteArray} (c0 : w.cell? ⟨D, 1 + k * 9, none⟩ = some (.int .i64 a0)) (c1 : w.cell? ⟨D, 1 + k * 9 + 1, none⟩ = some (.int .i64 a1)) (c2 : w.cell? ⟨D, 1 + k * 9 + 2, none⟩ = some (.int .i64 a2)) (c3 : w.cell? ⟨D, 1 + k * 9 + 3, none⟩ = some (.int .i64 a3)) (c4 : w.cell? ⟨D, 1 + k * 9 + 4, none⟩ = some (.int .i64 a4))
  (c5 : w.cell? ⟨D, 1 + k * 9 + 5, none⟩ = some (.slice none 0 0)) (c6 : w.cell? ⟨D, 1 + k * 9 + 6, none⟩ = some (.slice none 0 0)) (c7 : w.cell? ⟨D, 1 + k * 9 + 7, none⟩ = some (.slice none 0 0)) (c8 : w.cell? ⟨D, 1 + k * 9 + 8, none⟩ = some (.string t)) (hf : ∀ j, w.frozen? ⟨D, j, none⟩ = false) :
  DI w lo D k pd0 ⟨a0, a1, a2, a3, a4, abE, [], t⟩ :=
 ⟨c0, c1, c2, c3, c4, ⟨c5, c6, hf _, hf _, World.ownsRow_nil _ _ _ _, World.ownsRow_nil _ _ _ _, (fun k h => by cases h), Nat.zero_le _, (fun h => by cases h), (fun h => by cases h), (fun g h => by cases h)⟩, ⟨c7, hf _, rfl, rfl⟩, c8, fun _ => ⟨rfl, rfl, rfl⟩, fun _ => ⟨rfl, rfl⟩⟩
noncomputable def boxD (st : Value) : Array Value := (((((((((Tryz.zeroCells149.setIfInBounds 0 st).setIfInBounds 10 (.int .i64 2)).setIfInBounds 11 (.int .i64 1)).setIfInBounds 12 (.int .i64 0)).setIfInBounds 13 (.int .i64 0)).setIfInBounds 14 (.int .i64 1)).setIfInBounds 15 (.slice none 0 0)).setIfInBounds 16 (.slice none 0 0)).setIfInBounds 17 (.slice none 0 0)).setIfInBounds 18 (.string ⟨#[]⟩)
theorem boxD_zero (st : Value) : (boxD st)[0]? = some st := by
 have hz := zero51_size
 unfold boxD
 generalize Tryz.zeroCells149 = Z at *
 simp [Array.getElem?_setIfInBounds, hz]
theorem boxD_root (st : Value) (i : Nat) (hi : i < 9) : (boxD st)[1 + 1 * 9 + i]? = some (match i with | 0 => .int .i64 2 | 1 => .int .i64 1 | 2 => .int .i64 0 | 3 => .int .i64 0 | 4 => .int .i64 1 | 8 => .string ⟨#[]⟩ | _ => .slice none 0 0) := by
 have hz := zero51_size
 unfold boxD
 generalize Tryz.zeroCells149 = Z at *
 match i, hi with
 | 0, _ => simp [Array.getElem?_setIfInBounds, hz]
 | 1, _ => simp [Array.getElem?_setIfInBounds, hz]
 | 2, _ => simp [Array.getElem?_setIfInBounds, hz]
 | 3, _ => simp [Array.getElem?_setIfInBounds, hz]
 | 4, _ => simp [Array.getElem?_setIfInBounds, hz]
 | 5, _ => simp [Array.getElem?_setIfInBounds, hz]
 | 6, _ => simp [Array.getElem?_setIfInBounds, hz]
 | 7, _ => simp [Array.getElem?_setIfInBounds, hz]
 | 8, _ => simp [Array.getElem?_setIfInBounds, hz]
theorem boxD_else (st : Value) (k i : Nat) (hk : k ≤ 200) (h1 : k ≠ 1) (hi : i < 9) : (boxD st)[1 + k * 9 + i]? = ino9[i]? := by
 rw [← zero51_at k i hk hi]
 have hz := zero51_size
 unfold boxD
 generalize Tryz.zeroCells149 = Z at *
 have a0 : ¬ (0 = 1 + k * 9 + i) := by omega
 have a1 : ¬ (10 = 1 + k * 9 + i) := by omega
 have a2 : ¬ (11 = 1 + k * 9 + i) := by omega
 have a3 : ¬ (12 = 1 + k * 9 + i) := by omega
 have a4 : ¬ (13 = 1 + k * 9 + i) := by omega
 have a5 : ¬ (14 = 1 + k * 9 + i) := by omega
 have a6 : ¬ (15 = 1 + k * 9 + i) := by omega
 have a7 : ¬ (16 = 1 + k * 9 + i) := by omega
 have a8 : ¬ (17 = 1 + k * 9 + i) := by omega
 have a9 : ¬ (18 = 1 + k * 9 + i) := by omega
 simp only [Array.getElem?_setIfInBounds, Array.size_setIfInBounds, hz, a0, a1, a2, a3, a4, a5, a6, a7, a8, a9, if_false]
theorem DB.start {w : World} {room lo : Nat} (hlo : lo ≤ w.heap.size) {w1 w2 : World} (h1 : w1 = w.alloc (.cells #[.int .i64 (room : Int), .int .i64 0] 233)) (h2 : w2 = w1.alloc (.cells (boxD (Pq w.heap.size)) 149)) :
  DB w2 (w.heap.size + 1) lo w.heap.size (fun _ => pd0) (fun b => if b = w.heap.size + 1 then 1 else if b = w.heap.size then 2 else 0) fresh room ∧ Below w.heap.size w w2 := by
 have z1 : w1.heap.size = w.heap.size + 1 := by rw [h1]; exact World.size_alloc _ _
 have z2 : w2.heap.size = w.heap.size + 2 := by rw [h2, World.size_alloc, z1]
 have b1 : Below w.heap.size w w1 := by rw [h1]; exact dn.below_alloc _ _
 have b2 : Below w1.heap.size w1 w2 := by rw [h2]; exact dn.below_alloc _ _
 have hc : ∀ j, w2.cell? ⟨w.heap.size + 1, j, none⟩ = (boxD (Pq w.heap.size))[j]? := fun j => by
  rw [h2, ← z1]
  generalize boxD (Pq w.heap.size) = Z
  simp
 have hf : ∀ j, w2.frozen? ⟨w.heap.size + 1, j, none⟩ = false := fun j => by
  rw [h2, ← z1]
  generalize boxD (Pq w.heap.size) = Z
  simp
 have hs : StoC w1 w.heap.size room 0 := by
  rw [h1]
  exact ⟨by simp, by simp, by simp⟩
 refine ⟨⟨(hc 0).trans (boxD_zero _), hf, StoC.keep hs (b2.block _ (by omega)), fun k hk => ?_, if_pos rfl, ?_, fun k _ b hb => absurd hb (own0 b), fun b hb => ?_, fun b hb => ?_⟩, b1.trans (b2.mono (by omega))⟩
 ·rw [fresh_ino]
  by_cases e : k = 1
  ·subst e
   rw [if_pos rfl]
   exact DI.blank ((hc _).trans (boxD_root _ 0 (by omega))) ((hc _).trans (boxD_root _ 1 (by omega))) ((hc _).trans (boxD_root _ 2 (by omega))) ((hc _).trans (boxD_root _ 3 (by omega))) ((hc _).trans (boxD_root _ 4 (by omega))) ((hc _).trans (boxD_root _ 5 (by omega))) ((hc _).trans (boxD_root _ 6 (by omega))) ((hc _).trans (boxD_root _ 7 (by omega))) ((hc _).trans (boxD_root _ 8 (by omega))) hf
  ·rw [if_neg e]
   exact DI.blank ((hc _).trans (boxD_else _ k 0 hk e (by omega))) ((hc _).trans (boxD_else _ k 1 hk e (by omega))) ((hc _).trans (boxD_else _ k 2 hk e (by omega))) ((hc _).trans (boxD_else _ k 3 hk e (by omega))) ((hc _).trans (boxD_else _ k 4 hk e (by omega))) ((hc _).trans (boxD_else _ k 5 hk e (by omega))) ((hc _).trans (boxD_else _ k 6 hk e (by omega))) ((hc _).trans (boxD_else _ k 7 hk e (by omega))) ((hc _).trans (boxD_else _ k 8 hk e (by omega))) hf
 ·show (if w.heap.size = w.heap.size + 1 then 1 else if w.heap.size = w.heap.size then 2 else 0) = 2
  rw [if_neg (by omega), if_pos rfl]
 ·show (if b = w.heap.size + 1 then 1 else if b = w.heap.size then 2 else 0) = 0
  rw [if_neg (by omega), if_neg (by omega)]
 ·show (if b = w.heap.size + 1 then 1 else if b = w.heap.size then 2 else 0) = 0
  rw [if_neg (by omega), if_neg (by omega)]
theorem rb_new (room lo : Nat) (w : World) (hr : room ≤ 65536) (hlo : lo ≤ w.heap.size) : Calls Tryz.prog 32 #[.int .i64 (room : Int)] w (fun e w' => ∃ D RS pl tag, e = .returned (Pq D) ∧ DB w' D lo RS pl tag fresh room ∧ Below w.heap.size w w' ∧ ∀ b, tag b ≠ 0 → w.heap.size ≤ b) := by
 have HS := Lib.hid (rstore_yes room w hr)
 have HD := Lib.hid (fun w2 (h2 : w2 = (w.alloc (.cells #[.int .i64 (room : Int), .int .i64 0] 233)).alloc (.cells (boxD (Pq w.heap.size)) 149)) => DB.start (room := room) hlo rfl h2)
 unfold boxD at HD
 go_enter Tryz.func32, Tryz.ntmps32
 go_wp2_with fail
 refine HS.out.mono ?_
 rintro e w2 ⟨rfl, rfl⟩
 go_wp2_with fail
 go_ret
 obtain ⟨h1, h2⟩ := HD.out _ rfl
 exact ⟨_, _, _, _, rfl, h1, h2, fun b hb => by
  rcases Nat.lt_or_ge b w.heap.size with h3 | h3
  ·rw [if_neg (by omega), if_neg (by omega)] at hb; exact absurd rfl hb
  ·exact h3⟩
def RetQ (w : World) (v : Value) (e : Ending) (w' : World) : Prop := e = .returned v ∧ w' = w
section
variable {w w' : World} {D lo RS room : Nat} {pl : Nat → Pd} {tag : Nat → Nat} {S : BS}
theorem q_is (h : DB w D lo RS pl tag S room) (i : Int) : Calls Tryz.prog 105 #[Pq D, .int .i64 i] w (RetQ w (.bool (S.isI i))) := by
 unfold RetQ
 by_cases h1 : 1 ≤ i
 ·by_cases h2 : i ≤ 200
  ·obtain ⟨I, rfl⟩ : ∃ I : Nat, i = (I : Int) := ⟨i.toNat, by omega⟩
   have c0 := (h.ino I (by omega)).c0
   have hv : S.isI (I : Int) = ((S.ino I).kind != 0) := by
    unfold BS.isI
    rw [at_nat]
    by_cases e : (S.ino I).kind = 0
    ·rw [e]; simp
    ·simp [h1, h2, e]
   rw [hv]
   generalize (S.ino I).kind = kk at *
   clear h hv
   go_enter Tryz.func105, Tryz.ntmps105
   go_wp2_with fail
   go_ret
   exact ⟨rfl, rfl⟩
  ·have hv : S.isI i = false := by unfold BS.isI; simp; omega
   rw [hv]
   clear h hv
   go_enter Tryz.func105, Tryz.ntmps105
   go_wp2_with fail
   go_ret
   exact ⟨rfl, rfl⟩
 ·have hv : S.isI i = false := by unfold BS.isI; simp; omega
  rw [hv]
  clear h hv
  go_enter Tryz.func105, Tryz.ntmps105
  go_wp2_with fail
  go_ret
  exact ⟨rfl, rfl⟩
theorem q_dir (h : DB w D lo RS pl tag S room) (d : Int) (c : Bool) : Calls Tryz.prog 101 #[Pq D, .int .i64 d, .bool c] w (RetQ w (.int .i64 (S.dirE d c))) := by
 have HI := Lib.hid (q_is h d)
 unfold RetQ at HI ⊢
 rcases dirE_cases S d with ⟨h1, h2⟩ | ⟨I, rfl, d1, d2, h1, h3, ⟨h4, h5⟩ | ⟨h4, h5, h6⟩⟩
 ·rw [h1] at HI
  rw [h2]
  clear h h1 h2
  go_enter Tryz.func101, Tryz.ntmps101
  go_wp2_with fail
  refine HI.out.mono ?_
  rintro e w2 ⟨rfl, rfl⟩
  go_wp2_with fail
  go_ret
  exact ⟨rfl, rfl⟩
 ·rw [h1] at HI
  rw [h5]
  have c0 := (h.ino I d2).c0
  generalize (S.ino I).kind = kk at *
  have hk : (kk != 2) = true := by simpa using h4
  clear h h1 h4 h5
  go_enter Tryz.func101, Tryz.ntmps101
  go_wp2_with fail
  refine HI.out.mono ?_
  rintro e w2 ⟨rfl, rfl⟩
  go_wp2_with fail
  go_ret
  exact ⟨rfl, rfl⟩
 ·rw [h1] at HI
  have c0 := (h.ino I d2).c0
  have c1 := (h.ino I d2).c1
  rw [h4] at c0
  cases c
  ·rw [h5]
   clear h h1 h4 h5 h6 h3
   go_enter Tryz.func101, Tryz.ntmps101
   go_wp2_with fail
   refine HI.out.mono ?_
   rintro e w2 ⟨rfl, rfl⟩
   go_wp2_with fail
   go_ret
   exact ⟨rfl, rfl⟩
  ·generalize (S.ino I).links = ll at *
   rcases h6 with ⟨h6, h7⟩ | ⟨h6, h7⟩
   ·rw [h7]
    subst h6
    clear h h1 h4 h5 h7 h3
    go_enter Tryz.func101, Tryz.ntmps101
    go_wp2_with fail
    refine HI.out.mono ?_
    rintro e w2 ⟨rfl, rfl⟩
    go_wp2_with fail
    go_ret
    exact ⟨rfl, rfl⟩
   ·rw [h7]
    have hq : (ll == 0) = false := by simpa using h6
    clear h h1 h4 h5 h6 h7 h3
    go_enter Tryz.func101, Tryz.ntmps101
    go_wp2_with fail
    refine HI.out.mono ?_
    rintro e w2 ⟨rfl, rfl⟩
    go_wp2_with fail
    go_ret
    exact ⟨rfl, rfl⟩
theorem q_set (s : ByteArray) (w : World) (hm : s.size ≤ 9223372036854775807) : Calls Tryz.prog 144 #[.string s] w (RetI w (nameE s)) := by
 have HN := Lib.hid (dn.rname_any s w hm)
 unfold dn.NameE at HN
 unfold RetI
 by_cases he : nerr s.data.toList = 0
 ·rw [he] at HN
  obtain ⟨q1, h1⟩ : ∃ a, (s.toList == [46]) = a := ⟨_, rfl⟩
  obtain ⟨q2, h2⟩ : ∃ a, (s.toList == [46, 46]) = a := ⟨_, rfl⟩
  have hV := Lib.hid (show nameE s = if (q1 || q2) = true then 22 else 0 by unfold nameE dotB; rw [h1, h2, he]; simp)
  generalize nameE s = r at *
  clear he
  rcases (show q1 = true ∨ (q1 = false ∧ q2 = true) ∨ (q1 = false ∧ q2 = false) by cases q1 <;> cases q2 <;> simp) with rfl | ⟨rfl, rfl⟩ | ⟨rfl, rfl⟩
  all_goals
   go_enter Tryz.func144, Tryz.ntmps144
   go_wp2_with fail
   refine HN.out.mono ?_
   rintro e w2 ⟨rfl, hb2⟩
   go_wp2_with fail
   go_ret
   exact ⟨by rw [hV.out]; rfl, hb2⟩
 ·have hV := Lib.hid (show nameE s = nerr s.data.toList by unfold nameE; rw [if_neg (fun h => he h.1)])
  generalize nameE s = r at *
  generalize nerr s.data.toList = x at *
  have hr : (x == 0) = false := by simpa using he
  clear he
  go_enter Tryz.func144, Tryz.ntmps144
  go_wp2_with fail
  refine HN.out.mono ?_
  rintro e w2 ⟨rfl, hb2⟩
  go_wp2_with fail
  go_ret
  exact ⟨by rw [hV.out]; rfl, hb2⟩
theorem q_dget (h : DB w D lo RS pl tag S room) (hG : br.Good S room) {I : Nat} (hI : I ≤ 200) (s : ByteArray) : Calls Tryz.prog 147 #[dn.Px D (1 + I * 9 + 7), .string s] w (RetQ w (getV s (S.ino I).dir)) :=
 dn.rgetx_any D (1 + I * 9 + 7) lo _ _ _ s w (by have := hG.1.dirLen I; omega) (h.ino I hI).d
theorem q_get (h : DB w D lo RS pl tag S room) (hG : br.Good S room) (d : Int) (s : ByteArray) : Calls Tryz.prog 76 #[Pq D, .int .i64 d, .string s] w (RetQ w (.tuple #[.int .i64 (S.get d s).1, .int .i64 (S.get d s).2])) := by
 have HI := Lib.hid (q_dir h d false)
 unfold RetQ at HI ⊢
 by_cases h1 : S.dirE d false = 0
 ·obtain ⟨I, rfl, d1, d2, hD, _⟩ := dirE_ok h1
  have HG := Lib.hid (q_dget h hG d2 s)
  unfold RetQ at HG
  rw [getV_eq h1] at HG
  rw [h1] at HI
  generalize (S.get (I : Int) s).1 = a at *
  generalize (S.get (I : Int) s).2 = b at *
  clear h h1 hG
  go_enter Tryz.func76, Tryz.ntmps76
  go_wp2_with fail
  refine HI.out.mono ?_
  rintro e w2 ⟨rfl, rfl⟩
  go_wp2_with fail
  refine HG.out.mono ?_
  rintro e w2 ⟨rfl, rfl⟩
  go_wp2_with fail
  go_ret2
  exact ⟨rfl, rfl⟩
 ·have hv : S.get d s = (0, S.dirE d false) := by unfold BS.get; rw [if_pos h1]
  rw [hv]
  generalize S.dirE d false = x at *
  have hr : (x != 0) = true := by simpa using h1
  clear h h1 hG hv
  go_enter Tryz.func76, Tryz.ntmps76
  go_wp2_with fail
  refine HI.out.mono ?_
  rintro e w2 ⟨rfl, rfl⟩
  go_wp2_with fail
  go_ret2
  exact ⟨rfl, rfl⟩
theorem q_vacant (h : DB w D lo RS pl tag S room) (hG : br.Good S room) (d : Int) (s : ByteArray) (hm : s.size ≤ 9223372036854775807) : Calls Tryz.prog 97 #[Pq D, .int .i64 d, .string s] w (RetI w (S.vacant d s)) := by
 have HI := Lib.hid (q_dir h d true)
 unfold RetQ at HI
 unfold RetI
 by_cases h1 : S.dirE d true = 0
 ·rw [h1] at HI
  have HN := Lib.hid (q_set s w hm)
  unfold RetI at HN
  by_cases h2 : nameE s = 0
  ·rw [h2] at HN
   obtain ⟨I, rfl, d1, d2, hD, _⟩ := dirE_ok h1
   have HG := Lib.hid (fun w2 (hb : Below w.heap.size w w2) => q_dget (h.below hb) hG d2 s)
   unfold RetQ at HG
   cases hg : lget s (S.ino I).dir with
   | none =>
    have hv : S.vacant (I : Int) s = 0 := by unfold BS.vacant; rw [if_neg (by omega), if_neg (by omega), at_nat, hg]; rfl
    rw [hv]
    rw [show getV s (S.ino I).dir = .tuple #[.int .i64 0, .int .i64 2] from by unfold getV; rw [hg]] at HG
    clear h h1 hG hv h2 hg
    go_enter Tryz.func97, Tryz.ntmps97
    go_wp2_with fail
    refine HI.out.mono ?_
    rintro e w2 ⟨rfl, rfl⟩
    go_wp2_with fail
    refine HN.out.mono ?_
    rintro e w3 ⟨rfl, hb3⟩
    have HG3 := Lib.hid (HG.out w3 hb3)
    go_wp2_with fail
    refine HG3.out.mono ?_
    rintro e w4 ⟨rfl, rfl⟩
    go_wp2_with fail
    go_ret
    exact ⟨rfl, hb3⟩
   | some v =>
    have hv : S.vacant (I : Int) s = 17 := by unfold BS.vacant; rw [if_neg (by omega), if_neg (by omega), at_nat, hg]; rfl
    rw [hv]
    rw [show getV s (S.ino I).dir = .tuple #[.int .i64 v, .int .i64 0] from by unfold getV; rw [hg]] at HG
    clear h h1 hG hv h2 hg
    go_enter Tryz.func97, Tryz.ntmps97
    go_wp2_with fail
    refine HI.out.mono ?_
    rintro e w2 ⟨rfl, rfl⟩
    go_wp2_with fail
    refine HN.out.mono ?_
    rintro e w3 ⟨rfl, hb3⟩
    have HG3 := Lib.hid (HG.out w3 hb3)
    go_wp2_with fail
    refine HG3.out.mono ?_
    rintro e w4 ⟨rfl, rfl⟩
    go_wp2_with fail
    go_ret
    exact ⟨rfl, hb3⟩
  ·have hv : S.vacant d s = nameE s := by unfold BS.vacant; rw [if_neg (by omega), if_pos h2]
   rw [hv]
   generalize nameE s = x at *
   have hr : (x != 0) = true := by simpa using h2
   clear h h1 hG hv h2
   go_enter Tryz.func97, Tryz.ntmps97
   go_wp2_with fail
   refine HI.out.mono ?_
   rintro e w2 ⟨rfl, rfl⟩
   go_wp2_with fail
   refine HN.out.mono ?_
   rintro e w3 ⟨rfl, hb3⟩
   go_wp2_with fail
   go_ret
   exact ⟨rfl, hb3⟩
 ·have hv : S.vacant d s = S.dirE d true := by unfold BS.vacant; rw [if_pos h1]
  rw [hv]
  generalize S.dirE d true = x at *
  have hr : (x != 0) = true := by simpa using h1
  clear h h1 hG hv
  go_enter Tryz.func97, Tryz.ntmps97
  go_wp2_with fail
  refine HI.out.mono ?_
  rintro e w2 ⟨rfl, rfl⟩
  go_wp2_with fail
  go_ret
  exact ⟨rfl, Below.refl _ _⟩
end
section
variable {w w' : World} {D lo RS room : Nat} {pl : Nat → Pd} {tag : Nat → Nat} {S : BS}
theorem q_kind (h : DB w D lo RS pl tag S room) (i : Int) : Calls Tryz.prog 69 #[Pq D, .int .i64 i] w (RetQ w (.int .i64 (S.kindOf i))) := by
 have HI := Lib.hid (q_is h i)
 unfold RetQ at HI ⊢
 rcases isI_cases S i with hI | ⟨I, rfl, i1, i2, hn, hI⟩
 ·rw [hI] at HI
  rw [show S.kindOf i = 0 by unfold BS.kindOf; rw [hI]; rfl]
  clear h hI
  go_enter Tryz.func69, Tryz.ntmps69
  go_wp2_with fail
  refine HI.out.mono ?_
  rintro e w2 ⟨rfl, rfl⟩
  go_wp2_with fail
  go_ret
  exact ⟨rfl, rfl⟩
 ·rw [hI] at HI
  rw [show S.kindOf (I : Int) = (S.ino I).kind from kind_of i1 i2]
  have c0 := (h.ino I i2).c0
  generalize (S.ino I).kind = kk at *
  clear h hI hn
  go_enter Tryz.func69, Tryz.ntmps69
  go_wp2_with fail
  refine HI.out.mono ?_
  rintro e w2 ⟨rfl, rfl⟩
  go_wp2_with fail
  go_ret
  exact ⟨rfl, rfl⟩
theorem q_target (h : DB w D lo RS pl tag S room) (i : Int) : Calls Tryz.prog 85 #[Pq D, .int .i64 i] w (RetQ w (.tuple #[.string (S.targetOf i).1, .int .i64 (S.targetOf i).2])) := by
 have HI := Lib.hid (q_is h i)
 unfold RetQ at HI ⊢
 rcases isI_cases S i with hI | ⟨I, rfl, i1, i2, hn, hI⟩
 ·rw [hI] at HI
  rw [show S.targetOf i = (⟨#[]⟩, 2) by unfold BS.targetOf; rw [if_pos hI]]
  clear h hI
  go_enter Tryz.func85, Tryz.ntmps85
  go_wp2_with fail
  refine HI.out.mono ?_
  rintro e w2 ⟨rfl, rfl⟩
  go_wp2_with fail
  go_ret2
  exact ⟨rfl, rfl⟩
 ·rw [hI] at HI
  have c0 := (h.ino I i2).c0
  have c8 := (h.ino I i2).c8
  by_cases hk : (S.ino I).kind = 3
  ·rw [show S.targetOf (I : Int) = ((S.ino I).target, 0) by unfold BS.targetOf; rw [if_neg (by rw [hI]; decide), at_nat, if_neg (by rw [hk]; decide)]]
   rw [hk] at c0
   generalize (S.ino I).target = tt at *
   clear h hI hn hk
   go_enter Tryz.func85, Tryz.ntmps85
   go_wp2_with fail
   refine HI.out.mono ?_
   rintro e w2 ⟨rfl, rfl⟩
   go_wp2_with fail
   go_ret2
   exact ⟨rfl, rfl⟩
  ·rw [show S.targetOf (I : Int) = (⟨#[]⟩, 22) by unfold BS.targetOf; rw [if_neg (by rw [hI]; decide), at_nat, if_pos hk]]
   generalize (S.ino I).kind = kk at *
   have hq : (kk != 3) = true := by simpa using hk
   clear h hI hn hk c8
   go_enter Tryz.func85, Tryz.ntmps85
   go_wp2_with fail
   refine HI.out.mono ?_
   rintro e w2 ⟨rfl, rfl⟩
   go_wp2_with fail
   go_ret2
   exact ⟨rfl, rfl⟩
theorem q_file (h : DB w D lo RS pl tag S room) (i : Int) : Calls Tryz.prog 108 #[Pq D, .int .i64 i] w (RetQ w (.int .i64 (S.fileE i))) := by
 have HK := Lib.hid (q_kind h i)
 unfold RetQ at HK ⊢
 unfold BS.fileE
 generalize S.kindOf i = kk at *
 clear h
 by_cases h0 : kk = 0
 ·subst h0
  rw [if_pos rfl]
  go_enter Tryz.func108, Tryz.ntmps108
  go_wp2_with fail
  refine HK.out.mono ?_
  rintro e w2 ⟨rfl, rfl⟩
  go_wp2_with fail
  go_ret
  exact ⟨rfl, rfl⟩
 rw [if_neg h0]
 by_cases h2 : kk = 2
 ·subst h2
  rw [if_pos rfl]
  go_enter Tryz.func108, Tryz.ntmps108
  go_wp2_with fail
  refine HK.out.mono ?_
  rintro e w2 ⟨rfl, rfl⟩
  go_wp2_with fail
  go_ret
  exact ⟨rfl, rfl⟩
 rw [if_neg h2]
 by_cases h1 : kk = 1
 ·subst h1
  rw [if_pos rfl]
  go_enter Tryz.func108, Tryz.ntmps108
  go_wp2_with fail
  refine HK.out.mono ?_
  rintro e w2 ⟨rfl, rfl⟩
  go_wp2_with fail
  go_ret
  exact ⟨rfl, rfl⟩
 rw [if_neg h1]
 have q0 : (kk == 0) = false := by simpa using h0
 have q1 : (kk == 1) = false := by simpa using h1
 have q2 : (kk == 2) = false := by simpa using h2
 clear h0 h1 h2
 go_enter Tryz.func108, Tryz.ntmps108
 go_wp2_with fail
 refine HK.out.mono ?_
 rintro e w2 ⟨rfl, rfl⟩
 go_wp2_with fail
 go_ret
 exact ⟨rfl, rfl⟩
theorem q_below (h : DB w D lo RS pl tag S room) (hG : br.Good S room) {I : Nat} (hk : (S.ino I).kind = 2) (hl : (S.ino I).links ≠ 0) (top : Int) : Calls Tryz.prog 145 #[Pq D, .int .i64 (I : Int), .int .i64 top] w (RetQ w (.bool (S.below (I : Int) top 300))) := by
 have HH := Lib.hid h
 have HG := Lib.hid hG
 obtain ⟨bv, hbv⟩ : ∃ bv, S.below (I : Int) top 300 = bv := ⟨_, rfl⟩
 rw [hbv]
 have hi := hG.1.num (k := I) (by rw [hk]; decide)
 have HS := Lib.hid (show ∃ C : Nat, (I : Int) = (C : Int) ∧ C ≤ 200 ∧ (S.ino C).kind = 2 ∧ (S.ino C).links ≠ 0 ∧ S.below (I : Int) top 300 = bv from ⟨I, rfl, hi.2, hk, hl, hbv⟩)
 unfold RetQ
 clear h hG hk hl hi hbv
 go_enter Tryz.func145, Tryz.ntmps145
 go_wp2_with fail
 go_loopg [1, 7] 300 (fun g s1 s7 wr => ∃ (z : Int) (k : Nat), g + k = 300 ∧ s1 = .int .i64 z ∧ s7 = .int .i64 (k : Int) ∧ wr = w ∧ Hid (∃ C : Nat, z = (C : Int) ∧ C ≤ 200 ∧ (S.ino C).kind = 2 ∧ (S.ino C).links ≠ 0 ∧ S.below z top (300 - k) = bv))
 case atStart => exact ⟨_, 0, by omega, rfl, rfl, rfl, HS⟩
 case round =>
  clear HS
  obtain ⟨z, k, hg, rfl, rfl, rfl, HZ⟩ := hrel
  obtain ⟨C, rfl, c1, c2, c3, c4⟩ := HZ.out
  by_cases hk : k < 300
  ·rw [show 300 - k = (300 - (k + 1)) + 1 by omega] at c4
   unfold BS.below at c4
   rw [at_nat] at c4
   by_cases he : (C : Int) = top
   ·rw [decide_eq_true he, Bool.true_or] at c4
    subst he
    subst c4
    clear c2 c3 HZ
    go_wp2_with fail
    try rw [Exit.noGoto_ret]
    go_ret
    exact ⟨rfl, rfl⟩
   ·rw [decide_eq_false he, Bool.false_or] at c4
    have d4 := (HH.out.ino C c1).c4
    obtain ⟨p, hp, hp2, hp3, hp4⟩ : ∃ p : Nat, (S.ino C).parent = (p : Int) ∧ p ≤ 200 ∧ (S.ino p).kind = 2 ∧ (S.ino p).links ≠ 0 := by
     by_cases e1 : C = 1
     ·subst e1
      have hr := HG.out.1.root
      exact ⟨1, hr.2.2, by omega, hr.1, by rw [hr.2.1]; decide⟩
     ·obtain ⟨deep, hd⟩ := HG.out.2
      obtain ⟨p, q1, q2, q3, _⟩ := hd C c2 c3 e1
      exact ⟨p, q1, (HG.out.1.num (k := p) (by rw [q2]; decide)).2, q2, q3⟩
    rw [hp] at d4 c4
    have HZ2 := Lib.hid (show ∃ C : Nat, (p : Int) = (C : Int) ∧ C ≤ 200 ∧ (S.ino C).kind = 2 ∧ (S.ino C).links ≠ 0 ∧ S.below (p : Int) top (300 - (k + 1)) = bv from ⟨p, rfl, hp2, hp3, hp4, c4⟩)
    have hq : ((C : Int) == top) = false := by simpa using he
    clear c2 c3 c4 hp hp2 hp3 hp4 he HZ
    go_wp2_with fail
    go_roundg (gk - 1)
    case measure => omega
    case rel => exact ⟨_, k + 1, by omega, rfl, by go_num, rfl, HZ2⟩
  ·obtain rfl : k = 300 := by omega
   have hb : bv = false := by rw [← c4]; rfl
   subst hb
   clear c2 c3 c4 HZ
   go_wp2_with fail
   go_ret
   exact ⟨rfl, rfl⟩
end
end Go.Proofs.YtgoddboicjfkcaaGreat.cb
