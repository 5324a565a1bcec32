/- 'step': an act on both branches. -/
import Derived.Test.YtlelnpckbcpkkaaGreatDH
namespace Go.Proofs.YtlelnpckbcpkkaaGreat.cb
open Go.RowKit
open Go.Proofs.YtlelnpckbcpkkaaGreat.br
open Go.Proofs.YtlelnpckbcpkkaaGreat.bl (AB Only StoC Pq U8 WR IsStop strF rowF)
set_option linter.unusedVariables false
set_option linter.unusedSimpArgs false

abbrev StV (xk xd xt xn : Int) (xa xb : ByteArray) (xo : Int) : Value := .agg #[.int .i64 xk, .int .i64 xd, .int .i64 xt, .int .i64 xn, .string xa, .string xb, .int .i64 xo]
def StepE (w0 w : World) (P D RS : Nat) (X : Nat → Prop) (room T : Nat) (e : Ending) (w' : World) : Prop := e = .returned (.bool true) ∧ ∃ S', Two w0 w' P D RS X S' S' room (T + 1) ∧ Same X w w'
theorem row_bel {w w' : World} {lo n c : Nat} {A : Option Addr} {f : Nat → UInt8} (h : bl.Row w lo A n c f) (hb : Below w.heap.size w w') : bl.Row w' lo A n c f := by
  refine ⟨h.1, ?_⟩
  rcases h.2 with h1 | ⟨g, h1, h2, h3⟩
  · exact .inl h1
  · refine .inr ⟨g, h1, h2, (hb.block g ?_).trans h3⟩
    rcases Nat.lt_or_ge g w.heap.size with h4 | h4
    · exact h4
    · rw [Array.getElem?_eq_none h4] at h3; cases h3
theorem conv_rowF {w : World} {lo n c : Nat} {A : Option Addr} {f : Nat → UInt8} (h : w.ownsRow lo 5 1 (.slice A n c) n (rowF n f)) : (convert 40 9 (.slice A n c)).run Tryz.prog w = .ok (.string (strF n f)) w := by
  have : rowF n f = bytesV ((List.range n).map f) := by simp [rowF, bytesV]
  rw [this] at h
  exact own_conv h (by simp)
theorem own_ofslice {w : World} {lo n : Nat} {v : Value} {L : List Value} (h : w.ownsRow lo 5 1 v n L) : ∃ A c, v = .slice A n c := by
  rcases h.2 with ⟨h1, h2⟩ | ⟨g, cap, cur, h1, _⟩
  · exact ⟨none, 0, by rw [h1, h2]⟩
  · exact ⟨_, cap, h1⟩
section
variable {w0 w : World} {P D RS room T : Nat} {S S1 S2 : BS} {X : Nat → Prop}
theorem two_get (h : Two w0 w P D RS X S S room T) (i : Int) (s : ByteArray) : Calls Tryz.prog 15 #[Pq P, .int .i64 i, .string s] w (RetW w (.tuple #[.int .i64 (S.get i s).1, .int .i64 (S.get i s).2])) := by
  obtain ⟨pl, tg, h1, h2, h3⟩ := h
  exact x_get h1 i s
theorem two_rget (h : Two w0 w P D RS X S S room T) (i : Int) (s : ByteArray) : Calls Tryz.prog 16 #[Pq D, .int .i64 i, .string s] w (RetQ w (.tuple #[.int .i64 (S.get i s).1, .int .i64 (S.get i s).2])) := by
  obtain ⟨pl, tg, h1, h2, h3⟩ := h
  exact q_get h2 h1.good i s
theorem two_read (h : Two w0 w P D RS X S S room T) (i off n : Int) : Calls Tryz.prog 34 #[Pq P, .int .i64 i, .int .i64 off, .int .i64 n] w (ReadI w S i off n) := by
  obtain ⟨pl, tg, h1, h2, h3⟩ := h
  exact x_read h1 i off n
theorem two_rread (h : Two w0 w P D RS X S S room T) (i off n : Int) : Calls Tryz.prog 56 #[Pq D, .int .i64 i, .int .i64 off, .int .i64 n] w (fun e w' => ∃ v, e = .returned (.tuple #[v, .int .i64 (readI S i off n).1]) ∧ w'.ownsRow w.heap.size 5 1 v (readI S i off n).2 (rowF (readI S i off n).2 (fun j => (S.at i).body.dat (off.toNat + j))) ∧ Below w.heap.size w w') := by
  obtain ⟨pl, tg, h1, h2, h3⟩ := h
  exact q_read h2 h1.good i off n
set_option maxRecDepth 100000 in
set_option maxHeartbeats 2000000 in
theorem step1 (h : Two w0 w P D RS X S S room T) (hT : T ≤ 1000) (xd xt xn : Int) (xa xb : ByteArray) (xo : Int) (ha : xa.size ≤ 9223372036854775807) (hb : xb.size ≤ 4096) :
    Calls Tryz.prog 17 #[Pq P, Pq D, StV 1 xd xt xn xa xb xo] w (StepE w0 w P D RS X room T) := by
  have hG := h.good
  have hH := h.hold hT
  have hr := h.rle
  obtain ⟨B, hB⟩ : ∃ B, w.heap.size = B := ⟨_, rfl⟩
  obtain ⟨w1, hw1⟩ : ∃ w1, w.alloc (.cells #[.int .i64 1, .int .i64 xd, .int .i64 xt, .int .i64 xn, .string xa, .string xb, .int .i64 xo] 29) = w1 := ⟨_, rfl⟩
  have hbel : Below w.heap.size w w1 := by rw [← hw1]; exact dn.below_alloc w _
  have hz : w1.heap.size = B + 1 := by rw [← hw1, World.size_alloc, hB]
  have H1 := Lib.hid (h.box (Y := fun b => b = B ∨ X b) hbel (fun b hb => by
    rcases hb with e | e
    · exact .inr (by omega)
    · exact .inl e))
  have HSX := Lib.hid (fun b (hx : X b) => (⟨hbel.block b (h.xlt hx), Nat.lt_of_lt_of_le (h.xlt hx) hbel.size⟩ : w1.heap[b]? = w.heap[b]? ∧ b < w1.heap.size))
  have b0 : w1.cell? ⟨B, 0, none⟩ = some (.int .i64 1) := by rw [← hw1, ← hB]; simp
  have b1 : w1.cell? ⟨B, 1, none⟩ = some (.int .i64 xd) := by rw [← hw1, ← hB]; simp
  have b4 : w1.cell? ⟨B, 4, none⟩ = some (.string xa) := by rw [← hw1, ← hB]; simp
  have b2 : w1.cell? ⟨B, 2, none⟩ = some (.int .i64 xt) := by rw [← hw1, ← hB]; simp
  have HC := Lib.hid (fun W (h : Two w0 W P D RS (fun b => b = B ∨ X b) S S room T) => two_code h (fun Y hy => x_link hy xd xa xt ha))
  have HD := Lib.hid (fun W (h : Two w0 W P D RS (fun b => b = B ∨ X b) (S.link xd xa xt).2 S room (T + 1)) => two_doc h (fun pl tg hd => q_link hd hG xd xa xt ha))
  generalize S.link xd xa xt = r at HC HD
  obtain ⟨r1, S'⟩ := r
  dsimp only at HC HD
  clear h hG hH hr hbel ha hb hT hz
  unfold StepE
  go_enter Tryz.func17, Tryz.ntmps17
  go_upto_region 7 with fail
  clear hw1 hB
  go_region_held3 (fun w' => w'.cell? ⟨B, 1, none⟩ = some (.int .i64 xd) ∧ w'.cell? ⟨B, 4, none⟩ = some (.string xa) ∧ w'.cell? ⟨B, 2, none⟩ = some (.int .i64 xt))
    (first | exact ⟨b1, b4, b2⟩ | exact ⟨c1, c4, c2⟩ | exact ⟨d1, d4, d2⟩ | assumption | go_keep)
    (first
    | (go_at_call 29; ((with_reducible refine (HC.out _ H1.out.drew).mono ?_); rintro e w2 ⟨rfl, h2, hs2⟩; have c1 := (World.cell?_of_block (a := ⟨B, 1, none⟩) (hs2 B (.inl rfl))).trans b1; have c4 := (World.cell?_of_block (a := ⟨B, 4, none⟩) (hs2 B (.inl rfl))).trans b4; have c2 := (World.cell?_of_block (a := ⟨B, 2, none⟩) (hs2 B (.inl rfl))).trans b2; have H2 := Lib.hid h2))
    | (go_at_call 51; ((with_reducible refine (HD.out _ H2.out).mono ?_); rintro e w3 ⟨rfl, h3, hs3⟩; have d1 := (World.cell?_of_block (a := ⟨B, 1, none⟩) (hs3 B (.inl rfl))).trans c1; have d4 := (World.cell?_of_block (a := ⟨B, 4, none⟩) (hs3 B (.inl rfl))).trans c4; have d2 := (World.cell?_of_block (a := ⟨B, 2, none⟩) (hs3 B (.inl rfl))).trans c2; have H3 := Lib.hid (h3.sub fun b hb => .inr hb); have HS := Lib.hid (fun b (hx : X b) => ((hs3 b (.inr hx)).trans (hs2 b (.inr hx))).trans (HSX.out b hx).1))))
  all_goals
    go_wp2_with fail
    go_ret
    exact ⟨rfl, _, H3.out, HS.out⟩
set_option maxRecDepth 100000 in
set_option maxHeartbeats 2000000 in
theorem step2 (h : Two w0 w P D RS X S S room T) (hT : T ≤ 1000) (xd xt xn : Int) (xa xb : ByteArray) (xo : Int) (ha : xa.size ≤ 9223372036854775807) (hb : xb.size ≤ 4096) :
    Calls Tryz.prog 17 #[Pq P, Pq D, StV 2 xd xt xn xa xb xo] w (StepE w0 w P D RS X room T) := by
  have hG := h.good
  have hH := h.hold hT
  have hr := h.rle
  obtain ⟨B, hB⟩ : ∃ B, w.heap.size = B := ⟨_, rfl⟩
  obtain ⟨w1, hw1⟩ : ∃ w1, w.alloc (.cells #[.int .i64 2, .int .i64 xd, .int .i64 xt, .int .i64 xn, .string xa, .string xb, .int .i64 xo] 29) = w1 := ⟨_, rfl⟩
  have hbel : Below w.heap.size w w1 := by rw [← hw1]; exact dn.below_alloc w _
  have hz : w1.heap.size = B + 1 := by rw [← hw1, World.size_alloc, hB]
  have H1 := Lib.hid (h.box (Y := fun b => b = B ∨ X b) hbel (fun b hb => by
    rcases hb with e | e
    · exact .inr (by omega)
    · exact .inl e))
  have HSX := Lib.hid (fun b (hx : X b) => (⟨hbel.block b (h.xlt hx), Nat.lt_of_lt_of_le (h.xlt hx) hbel.size⟩ : w1.heap[b]? = w.heap[b]? ∧ b < w1.heap.size))
  have b0 : w1.cell? ⟨B, 0, none⟩ = some (.int .i64 2) := by rw [← hw1, ← hB]; simp
  have b1 : w1.cell? ⟨B, 1, none⟩ = some (.int .i64 xd) := by rw [← hw1, ← hB]; simp
  have b4 : w1.cell? ⟨B, 4, none⟩ = some (.string xa) := by rw [← hw1, ← hB]; simp
  have HC := Lib.hid (fun W (h : Two w0 W P D RS (fun b => b = B ∨ X b) S S room T) => two_code h (fun Y hy => x_unlink hy hT xd xa))
  have HD := Lib.hid (fun W (h : Two w0 W P D RS (fun b => b = B ∨ X b) (S.unlink xd xa).2 S room (T + 1)) => two_doc h (fun pl tg hd => q_unlink hd hG hr hH xd xa))
  generalize S.unlink xd xa = r at HC HD
  obtain ⟨r1, S'⟩ := r
  dsimp only at HC HD
  clear h hG hH hr hbel ha hb hT hz
  unfold StepE
  go_enter Tryz.func17, Tryz.ntmps17
  go_upto_region 9 with fail
  clear hw1 hB
  go_region_held3 (fun w' => w'.cell? ⟨B, 1, none⟩ = some (.int .i64 xd) ∧ w'.cell? ⟨B, 4, none⟩ = some (.string xa))
    (first | exact ⟨b1, b4⟩ | exact ⟨c1, c4⟩ | exact ⟨d1, d4⟩ | assumption | go_keep)
    (first
    | (go_at_call 30; ((with_reducible refine (HC.out _ H1.out.drew).mono ?_); rintro e w2 ⟨rfl, h2, hs2⟩; have c1 := (World.cell?_of_block (a := ⟨B, 1, none⟩) (hs2 B (.inl rfl))).trans b1; have c4 := (World.cell?_of_block (a := ⟨B, 4, none⟩) (hs2 B (.inl rfl))).trans b4; have H2 := Lib.hid h2))
    | (go_at_call 52; ((with_reducible refine (HD.out _ H2.out).mono ?_); rintro e w3 ⟨rfl, h3, hs3⟩; have d1 := (World.cell?_of_block (a := ⟨B, 1, none⟩) (hs3 B (.inl rfl))).trans c1; have d4 := (World.cell?_of_block (a := ⟨B, 4, none⟩) (hs3 B (.inl rfl))).trans c4; have H3 := Lib.hid (h3.sub fun b hb => .inr hb); have HS := Lib.hid (fun b (hx : X b) => ((hs3 b (.inr hx)).trans (hs2 b (.inr hx))).trans (HSX.out b hx).1))))
  all_goals
    go_wp2_with fail
    go_ret
    exact ⟨rfl, _, H3.out, HS.out⟩
set_option maxRecDepth 100000 in
set_option maxHeartbeats 2000000 in
theorem step3 (h : Two w0 w P D RS X S S room T) (hT : T ≤ 1000) (xd xt xn : Int) (xa xb : ByteArray) (xo : Int) (ha : xa.size ≤ 9223372036854775807) (hb : xb.size ≤ 4096) :
    Calls Tryz.prog 17 #[Pq P, Pq D, StV 3 xd xt xn xa xb xo] w (StepE w0 w P D RS X room T) := by
  have hG := h.good
  have hH := h.hold hT
  have hr := h.rle
  obtain ⟨B, hB⟩ : ∃ B, w.heap.size = B := ⟨_, rfl⟩
  obtain ⟨w1, hw1⟩ : ∃ w1, w.alloc (.cells #[.int .i64 3, .int .i64 xd, .int .i64 xt, .int .i64 xn, .string xa, .string xb, .int .i64 xo] 29) = w1 := ⟨_, rfl⟩
  have hbel : Below w.heap.size w w1 := by rw [← hw1]; exact dn.below_alloc w _
  have hz : w1.heap.size = B + 1 := by rw [← hw1, World.size_alloc, hB]
  have H1 := Lib.hid (h.box (Y := fun b => b = B ∨ X b) hbel (fun b hb => by
    rcases hb with e | e
    · exact .inr (by omega)
    · exact .inl e))
  have HSX := Lib.hid (fun b (hx : X b) => (⟨hbel.block b (h.xlt hx), Nat.lt_of_lt_of_le (h.xlt hx) hbel.size⟩ : w1.heap[b]? = w.heap[b]? ∧ b < w1.heap.size))
  have b0 : w1.cell? ⟨B, 0, none⟩ = some (.int .i64 3) := by rw [← hw1, ← hB]; simp
  have b1 : w1.cell? ⟨B, 1, none⟩ = some (.int .i64 xd) := by rw [← hw1, ← hB]; simp
  have b4 : w1.cell? ⟨B, 4, none⟩ = some (.string xa) := by rw [← hw1, ← hB]; simp
  have HC := Lib.hid (fun W (h : Two w0 W P D RS (fun b => b = B ∨ X b) S S room T) => two_code h (fun Y hy => x_rmdir hy hT xd xa))
  have HD := Lib.hid (fun W (h : Two w0 W P D RS (fun b => b = B ∨ X b) (S.rmdir xd xa).2 S room (T + 1)) => two_doc h (fun pl tg hd => q_rmdir hd hG hr hH xd xa))
  generalize S.rmdir xd xa = r at HC HD
  obtain ⟨r1, S'⟩ := r
  dsimp only at HC HD
  clear h hG hH hr hbel ha hb hT hz
  unfold StepE
  go_enter Tryz.func17, Tryz.ntmps17
  go_upto_region 11 with fail
  clear hw1 hB
  go_region_held3 (fun w' => w'.cell? ⟨B, 1, none⟩ = some (.int .i64 xd) ∧ w'.cell? ⟨B, 4, none⟩ = some (.string xa))
    (first | exact ⟨b1, b4⟩ | exact ⟨c1, c4⟩ | exact ⟨d1, d4⟩ | assumption | go_keep)
    (first
    | (go_at_call 31; ((with_reducible refine (HC.out _ H1.out.drew).mono ?_); rintro e w2 ⟨rfl, h2, hs2⟩; have c1 := (World.cell?_of_block (a := ⟨B, 1, none⟩) (hs2 B (.inl rfl))).trans b1; have c4 := (World.cell?_of_block (a := ⟨B, 4, none⟩) (hs2 B (.inl rfl))).trans b4; have H2 := Lib.hid h2))
    | (go_at_call 53; ((with_reducible refine (HD.out _ H2.out).mono ?_); rintro e w3 ⟨rfl, h3, hs3⟩; have d1 := (World.cell?_of_block (a := ⟨B, 1, none⟩) (hs3 B (.inl rfl))).trans c1; have d4 := (World.cell?_of_block (a := ⟨B, 4, none⟩) (hs3 B (.inl rfl))).trans c4; have H3 := Lib.hid (h3.sub fun b hb => .inr hb); have HS := Lib.hid (fun b (hx : X b) => ((hs3 b (.inr hx)).trans (hs2 b (.inr hx))).trans (HSX.out b hx).1))))
  all_goals
    go_wp2_with fail
    go_ret
    exact ⟨rfl, _, H3.out, HS.out⟩
set_option maxRecDepth 100000 in
set_option maxHeartbeats 2000000 in
theorem step4 (h : Two w0 w P D RS X S S room T) (hT : T ≤ 1000) (xd xt xn : Int) (xa xb : ByteArray) (xo : Int) (ha : xa.size ≤ 9223372036854775807) (hb : xb.size ≤ 4096) :
    Calls Tryz.prog 17 #[Pq P, Pq D, StV 4 xd xt xn xa xb xo] w (StepE w0 w P D RS X room T) := by
  have hG := h.good
  have hH := h.hold hT
  have hr := h.rle
  obtain ⟨B, hB⟩ : ∃ B, w.heap.size = B := ⟨_, rfl⟩
  obtain ⟨w1, hw1⟩ : ∃ w1, w.alloc (.cells #[.int .i64 4, .int .i64 xd, .int .i64 xt, .int .i64 xn, .string xa, .string xb, .int .i64 xo] 29) = w1 := ⟨_, rfl⟩
  have hbel : Below w.heap.size w w1 := by rw [← hw1]; exact dn.below_alloc w _
  have hz : w1.heap.size = B + 1 := by rw [← hw1, World.size_alloc, hB]
  have H1 := Lib.hid (h.box (Y := fun b => b = B ∨ X b) hbel (fun b hb => by
    rcases hb with e | e
    · exact .inr (by omega)
    · exact .inl e))
  have HSX := Lib.hid (fun b (hx : X b) => (⟨hbel.block b (h.xlt hx), Nat.lt_of_lt_of_le (h.xlt hx) hbel.size⟩ : w1.heap[b]? = w.heap[b]? ∧ b < w1.heap.size))
  have b0 : w1.cell? ⟨B, 0, none⟩ = some (.int .i64 4) := by rw [← hw1, ← hB]; simp
  have b1 : w1.cell? ⟨B, 1, none⟩ = some (.int .i64 xd) := by rw [← hw1, ← hB]; simp
  have b4 : w1.cell? ⟨B, 4, none⟩ = some (.string xa) := by rw [← hw1, ← hB]; simp
  have b2 : w1.cell? ⟨B, 2, none⟩ = some (.int .i64 xt) := by rw [← hw1, ← hB]; simp
  have b5 : w1.cell? ⟨B, 5, none⟩ = some (.string xb) := by rw [← hw1, ← hB]; simp
  have HC := Lib.hid (fun W (h : Two w0 W P D RS (fun b => b = B ∨ X b) S S room T) => two_code h (fun Y hy => x_rename hy hT xd xa xt xb (Nat.le_trans hb (by decide))))
  have HD := Lib.hid (fun W (h : Two w0 W P D RS (fun b => b = B ∨ X b) (S.rename xd xa xt xb).2 S room (T + 1)) => two_doc h (fun pl tg hd => q_rename hd hG hr hH xd xa xt xb (Nat.le_trans hb (by decide))))
  generalize S.rename xd xa xt xb = r at HC HD
  obtain ⟨r1, S'⟩ := r
  dsimp only at HC HD
  clear h hG hH hr hbel ha hb hT hz
  unfold StepE
  go_enter Tryz.func17, Tryz.ntmps17
  go_upto_region 13 with fail
  clear hw1 hB
  go_region_held3 (fun w' => w'.cell? ⟨B, 1, none⟩ = some (.int .i64 xd) ∧ w'.cell? ⟨B, 4, none⟩ = some (.string xa) ∧ w'.cell? ⟨B, 2, none⟩ = some (.int .i64 xt) ∧ w'.cell? ⟨B, 5, none⟩ = some (.string xb))
    (first | exact ⟨b1, b4, b2, b5⟩ | exact ⟨c1, c4, c2, c5⟩ | exact ⟨d1, d4, d2, d5⟩ | assumption | go_keep)
    (first
    | (go_at_call 32; ((with_reducible refine (HC.out _ H1.out.drew).mono ?_); rintro e w2 ⟨rfl, h2, hs2⟩; have c1 := (World.cell?_of_block (a := ⟨B, 1, none⟩) (hs2 B (.inl rfl))).trans b1; have c4 := (World.cell?_of_block (a := ⟨B, 4, none⟩) (hs2 B (.inl rfl))).trans b4; have c2 := (World.cell?_of_block (a := ⟨B, 2, none⟩) (hs2 B (.inl rfl))).trans b2; have c5 := (World.cell?_of_block (a := ⟨B, 5, none⟩) (hs2 B (.inl rfl))).trans b5; have H2 := Lib.hid h2))
    | (go_at_call 54; ((with_reducible refine (HD.out _ H2.out).mono ?_); rintro e w3 ⟨rfl, h3, hs3⟩; have d1 := (World.cell?_of_block (a := ⟨B, 1, none⟩) (hs3 B (.inl rfl))).trans c1; have d4 := (World.cell?_of_block (a := ⟨B, 4, none⟩) (hs3 B (.inl rfl))).trans c4; have d2 := (World.cell?_of_block (a := ⟨B, 2, none⟩) (hs3 B (.inl rfl))).trans c2; have d5 := (World.cell?_of_block (a := ⟨B, 5, none⟩) (hs3 B (.inl rfl))).trans c5; have H3 := Lib.hid (h3.sub fun b hb => .inr hb); have HS := Lib.hid (fun b (hx : X b) => ((hs3 b (.inr hx)).trans (hs2 b (.inr hx))).trans (HSX.out b hx).1))))
  all_goals
    go_wp2_with fail
    go_ret
    exact ⟨rfl, _, H3.out, HS.out⟩
set_option maxRecDepth 100000 in
set_option maxHeartbeats 2000000 in
theorem step7 (h : Two w0 w P D RS X S S room T) (hT : T ≤ 1000) (xd xt xn : Int) (xa xb : ByteArray) (xo : Int) (ha : xa.size ≤ 9223372036854775807) (hb : xb.size ≤ 4096) :
    Calls Tryz.prog 17 #[Pq P, Pq D, StV 7 xd xt xn xa xb xo] w (StepE w0 w P D RS X room T) := by
  have hG := h.good
  have hH := h.hold hT
  have hr := h.rle
  obtain ⟨B, hB⟩ : ∃ B, w.heap.size = B := ⟨_, rfl⟩
  obtain ⟨w1, hw1⟩ : ∃ w1, w.alloc (.cells #[.int .i64 7, .int .i64 xd, .int .i64 xt, .int .i64 xn, .string xa, .string xb, .int .i64 xo] 29) = w1 := ⟨_, rfl⟩
  have hbel : Below w.heap.size w w1 := by rw [← hw1]; exact dn.below_alloc w _
  have hz : w1.heap.size = B + 1 := by rw [← hw1, World.size_alloc, hB]
  have H1 := Lib.hid (h.box (Y := fun b => b = B ∨ X b) hbel (fun b hb => by
    rcases hb with e | e
    · exact .inr (by omega)
    · exact .inl e))
  have HSX := Lib.hid (fun b (hx : X b) => (⟨hbel.block b (h.xlt hx), Nat.lt_of_lt_of_le (h.xlt hx) hbel.size⟩ : w1.heap[b]? = w.heap[b]? ∧ b < w1.heap.size))
  have b0 : w1.cell? ⟨B, 0, none⟩ = some (.int .i64 7) := by rw [← hw1, ← hB]; simp
  have b1 : w1.cell? ⟨B, 1, none⟩ = some (.int .i64 xd) := by rw [← hw1, ← hB]; simp
  have b6 : w1.cell? ⟨B, 6, none⟩ = some (.int .i64 xo) := by rw [← hw1, ← hB]; simp
  have HC := Lib.hid (fun W (h : Two w0 W P D RS (fun b => b = B ∨ X b) S S room T) => two_code h (fun Y hy => x_cut hy xd xo))
  have HD := Lib.hid (fun W (h : Two w0 W P D RS (fun b => b = B ∨ X b) (S.cutI xd xo).2 S room (T + 1)) => two_doc h (fun pl tg hd => q_cut hd hG hr xd xo))
  generalize S.cutI xd xo = r at HC HD
  obtain ⟨r1, S'⟩ := r
  dsimp only at HC HD
  clear h hG hH hr hbel ha hb hT hz
  unfold StepE
  go_enter Tryz.func17, Tryz.ntmps17
  go_upto_region 23 with fail
  clear hw1 hB
  go_region_held3 (fun w' => w'.cell? ⟨B, 1, none⟩ = some (.int .i64 xd) ∧ w'.cell? ⟨B, 6, none⟩ = some (.int .i64 xo))
    (first | exact ⟨b1, b6⟩ | exact ⟨c1, c6⟩ | exact ⟨d1, d6⟩ | assumption | go_keep)
    (first
    | (go_at_call 35; ((with_reducible refine (HC.out _ H1.out.drew).mono ?_); rintro e w2 ⟨rfl, h2, hs2⟩; have c1 := (World.cell?_of_block (a := ⟨B, 1, none⟩) (hs2 B (.inl rfl))).trans b1; have c6 := (World.cell?_of_block (a := ⟨B, 6, none⟩) (hs2 B (.inl rfl))).trans b6; have H2 := Lib.hid h2))
    | (go_at_call 57; ((with_reducible refine (HD.out _ H2.out).mono ?_); rintro e w3 ⟨rfl, h3, hs3⟩; have d1 := (World.cell?_of_block (a := ⟨B, 1, none⟩) (hs3 B (.inl rfl))).trans c1; have d6 := (World.cell?_of_block (a := ⟨B, 6, none⟩) (hs3 B (.inl rfl))).trans c6; have H3 := Lib.hid (h3.sub fun b hb => .inr hb); have HS := Lib.hid (fun b (hx : X b) => ((hs3 b (.inr hx)).trans (hs2 b (.inr hx))).trans (HSX.out b hx).1))))
  all_goals
    go_wp2_with fail
    go_ret
    exact ⟨rfl, _, H3.out, HS.out⟩
set_option maxRecDepth 100000 in
set_option maxHeartbeats 2000000 in
theorem step8 (h : Two w0 w P D RS X S S room T) (hT : T ≤ 1000) (xd xt xn : Int) (xa xb : ByteArray) (xo : Int) (ha : xa.size ≤ 9223372036854775807) (hb : xb.size ≤ 4096) :
    Calls Tryz.prog 17 #[Pq P, Pq D, StV 8 xd xt xn xa xb xo] w (StepE w0 w P D RS X room T) := by
  have hG := h.good
  have hH := h.hold hT
  have hr := h.rle
  obtain ⟨B, hB⟩ : ∃ B, w.heap.size = B := ⟨_, rfl⟩
  obtain ⟨w1, hw1⟩ : ∃ w1, w.alloc (.cells #[.int .i64 8, .int .i64 xd, .int .i64 xt, .int .i64 xn, .string xa, .string xb, .int .i64 xo] 29) = w1 := ⟨_, rfl⟩
  have hbel : Below w.heap.size w w1 := by rw [← hw1]; exact dn.below_alloc w _
  have hz : w1.heap.size = B + 1 := by rw [← hw1, World.size_alloc, hB]
  have H1 := Lib.hid (h.box (Y := fun b => b = B ∨ X b) hbel (fun b hb => by
    rcases hb with e | e
    · exact .inr (by omega)
    · exact .inl e))
  have HSX := Lib.hid (fun b (hx : X b) => (⟨hbel.block b (h.xlt hx), Nat.lt_of_lt_of_le (h.xlt hx) hbel.size⟩ : w1.heap[b]? = w.heap[b]? ∧ b < w1.heap.size))
  have b0 : w1.cell? ⟨B, 0, none⟩ = some (.int .i64 8) := by rw [← hw1, ← hB]; simp
  have b1 : w1.cell? ⟨B, 1, none⟩ = some (.int .i64 xd) := by rw [← hw1, ← hB]; simp
  have HC := Lib.hid (fun W (h : Two w0 W P D RS (fun b => b = B ∨ X b) S S room T) => two_code h (fun Y hy => x_hold hy hT xd))
  have HD := Lib.hid (fun W (h : Two w0 W P D RS (fun b => b = B ∨ X b) (S.hold xd).2 S room (T + 1)) => two_doc h (fun pl tg hd => q_hold hd hG hH xd))
  generalize S.hold xd = r at HC HD
  obtain ⟨r1, S'⟩ := r
  dsimp only at HC HD
  clear h hG hH hr hbel ha hb hT hz
  unfold StepE
  go_enter Tryz.func17, Tryz.ntmps17
  go_upto_region 25 with fail
  clear hw1 hB
  go_region_held3 (fun w' => w'.cell? ⟨B, 1, none⟩ = some (.int .i64 xd))
    (first | exact b1 | exact c1 | exact d1 | assumption | go_keep)
    (first
    | (go_at_call 36; ((with_reducible refine (HC.out _ H1.out.drew).mono ?_); rintro e w2 ⟨rfl, h2, hs2⟩; have c1 := (World.cell?_of_block (a := ⟨B, 1, none⟩) (hs2 B (.inl rfl))).trans b1; have H2 := Lib.hid h2))
    | (go_at_call 58; ((with_reducible refine (HD.out _ H2.out).mono ?_); rintro e w3 ⟨rfl, h3, hs3⟩; have d1 := (World.cell?_of_block (a := ⟨B, 1, none⟩) (hs3 B (.inl rfl))).trans c1; have H3 := Lib.hid (h3.sub fun b hb => .inr hb); have HS := Lib.hid (fun b (hx : X b) => ((hs3 b (.inr hx)).trans (hs2 b (.inr hx))).trans (HSX.out b hx).1))))
  all_goals
    go_wp2_with fail
    go_ret
    exact ⟨rfl, _, H3.out, HS.out⟩
set_option maxRecDepth 100000 in
set_option maxHeartbeats 2000000 in
theorem step9 (h : Two w0 w P D RS X S S room T) (hT : T ≤ 1000) (xd xt xn : Int) (xa xb : ByteArray) (xo : Int) (ha : xa.size ≤ 9223372036854775807) (hb : xb.size ≤ 4096) :
    Calls Tryz.prog 17 #[Pq P, Pq D, StV 9 xd xt xn xa xb xo] w (StepE w0 w P D RS X room T) := by
  have hG := h.good
  have hH := h.hold hT
  have hr := h.rle
  obtain ⟨B, hB⟩ : ∃ B, w.heap.size = B := ⟨_, rfl⟩
  obtain ⟨w1, hw1⟩ : ∃ w1, w.alloc (.cells #[.int .i64 9, .int .i64 xd, .int .i64 xt, .int .i64 xn, .string xa, .string xb, .int .i64 xo] 29) = w1 := ⟨_, rfl⟩
  have hbel : Below w.heap.size w w1 := by rw [← hw1]; exact dn.below_alloc w _
  have hz : w1.heap.size = B + 1 := by rw [← hw1, World.size_alloc, hB]
  have H1 := Lib.hid (h.box (Y := fun b => b = B ∨ X b) hbel (fun b hb => by
    rcases hb with e | e
    · exact .inr (by omega)
    · exact .inl e))
  have HSX := Lib.hid (fun b (hx : X b) => (⟨hbel.block b (h.xlt hx), Nat.lt_of_lt_of_le (h.xlt hx) hbel.size⟩ : w1.heap[b]? = w.heap[b]? ∧ b < w1.heap.size))
  have b0 : w1.cell? ⟨B, 0, none⟩ = some (.int .i64 9) := by rw [← hw1, ← hB]; simp
  have b1 : w1.cell? ⟨B, 1, none⟩ = some (.int .i64 xd) := by rw [← hw1, ← hB]; simp
  have HC := Lib.hid (fun W (h : Two w0 W P D RS (fun b => b = B ∨ X b) S S room T) => two_code h (fun Y hy => x_release hy hT xd))
  have HD := Lib.hid (fun W (h : Two w0 W P D RS (fun b => b = B ∨ X b) (S.release xd).2 S room (T + 1)) => two_doc h (fun pl tg hd => q_release hd hG hr hH xd))
  generalize S.release xd = r at HC HD
  obtain ⟨r1, S'⟩ := r
  dsimp only at HC HD
  clear h hG hH hr hbel ha hb hT hz
  unfold StepE
  go_enter Tryz.func17, Tryz.ntmps17
  go_upto_region 27 with fail
  clear hw1 hB
  go_region_held3 (fun w' => w'.cell? ⟨B, 1, none⟩ = some (.int .i64 xd))
    (first | exact b1 | exact c1 | exact d1 | assumption | go_keep)
    (first
    | (go_at_call 37; ((with_reducible refine (HC.out _ H1.out.drew).mono ?_); rintro e w2 ⟨rfl, h2, hs2⟩; have c1 := (World.cell?_of_block (a := ⟨B, 1, none⟩) (hs2 B (.inl rfl))).trans b1; have H2 := Lib.hid h2))
    | (go_at_call 59; ((with_reducible refine (HD.out _ H2.out).mono ?_); rintro e w3 ⟨rfl, h3, hs3⟩; have d1 := (World.cell?_of_block (a := ⟨B, 1, none⟩) (hs3 B (.inl rfl))).trans c1; have H3 := Lib.hid (h3.sub fun b hb => .inr hb); have HS := Lib.hid (fun b (hx : X b) => ((hs3 b (.inr hx)).trans (hs2 b (.inr hx))).trans (HSX.out b hx).1))))
  all_goals
    go_wp2_with fail
    go_ret
    exact ⟨rfl, _, H3.out, HS.out⟩
set_option maxRecDepth 100000 in
set_option maxHeartbeats 2000000 in
theorem step10 (h : Two w0 w P D RS X S S room T) (hT : T ≤ 1000) (xd xt xn : Int) (xa xb : ByteArray) (xo : Int) (ha : xa.size ≤ 9223372036854775807) (hb : xb.size ≤ 4096) :
    Calls Tryz.prog 17 #[Pq P, Pq D, StV 10 xd xt xn xa xb xo] w (StepE w0 w P D RS X room T) := by
  have hG := h.good
  have hH := h.hold hT
  have hr := h.rle
  obtain ⟨B, hB⟩ : ∃ B, w.heap.size = B := ⟨_, rfl⟩
  obtain ⟨w1, hw1⟩ : ∃ w1, w.alloc (.cells #[.int .i64 10, .int .i64 xd, .int .i64 xt, .int .i64 xn, .string xa, .string xb, .int .i64 xo] 29) = w1 := ⟨_, rfl⟩
  have hbel : Below w.heap.size w w1 := by rw [← hw1]; exact dn.below_alloc w _
  have hz : w1.heap.size = B + 1 := by rw [← hw1, World.size_alloc, hB]
  have H1 := Lib.hid (h.box (Y := fun b => b = B ∨ X b) hbel (fun b hb => by
    rcases hb with e | e
    · exact .inr (by omega)
    · exact .inl e))
  have HSX := Lib.hid (fun b (hx : X b) => (⟨hbel.block b (h.xlt hx), Nat.lt_of_lt_of_le (h.xlt hx) hbel.size⟩ : w1.heap[b]? = w.heap[b]? ∧ b < w1.heap.size))
  have b0 : w1.cell? ⟨B, 0, none⟩ = some (.int .i64 10) := by rw [← hw1, ← hB]; simp
  have b1 : w1.cell? ⟨B, 1, none⟩ = some (.int .i64 xd) := by rw [← hw1, ← hB]; simp
  have b3 : w1.cell? ⟨B, 3, none⟩ = some (.int .i64 xn) := by rw [← hw1, ← hB]; simp
  have HC := Lib.hid (fun W (h : Two w0 W P D RS (fun b => b = B ∨ X b) S S room T) => two_code h (fun Y hy => x_mark hy xd xn))
  have HD := Lib.hid (fun W (h : Two w0 W P D RS (fun b => b = B ∨ X b) (S.mark xd xn).2 S room (T + 1)) => two_doc h (fun pl tg hd => q_mark hd xd xn))
  generalize S.mark xd xn = r at HC HD
  obtain ⟨r1, S'⟩ := r
  dsimp only at HC HD
  clear h hG hH hr hbel ha hb hT hz
  unfold StepE
  go_enter Tryz.func17, Tryz.ntmps17
  go_upto_region 29 with fail
  clear hw1 hB
  go_region_held3 (fun w' => w'.cell? ⟨B, 1, none⟩ = some (.int .i64 xd) ∧ w'.cell? ⟨B, 3, none⟩ = some (.int .i64 xn))
    (first | exact ⟨b1, b3⟩ | exact ⟨c1, c3⟩ | exact ⟨d1, d3⟩ | assumption | go_keep)
    (first
    | (go_at_call 38; ((with_reducible refine (HC.out _ H1.out.drew).mono ?_); rintro e w2 ⟨rfl, h2, hs2⟩; have c1 := (World.cell?_of_block (a := ⟨B, 1, none⟩) (hs2 B (.inl rfl))).trans b1; have c3 := (World.cell?_of_block (a := ⟨B, 3, none⟩) (hs2 B (.inl rfl))).trans b3; have H2 := Lib.hid h2))
    | (go_at_call 60; ((with_reducible refine (HD.out _ H2.out).mono ?_); rintro e w3 ⟨rfl, h3, hs3⟩; have d1 := (World.cell?_of_block (a := ⟨B, 1, none⟩) (hs3 B (.inl rfl))).trans c1; have d3 := (World.cell?_of_block (a := ⟨B, 3, none⟩) (hs3 B (.inl rfl))).trans c3; have H3 := Lib.hid (h3.sub fun b hb => .inr hb); have HS := Lib.hid (fun b (hx : X b) => ((hs3 b (.inr hx)).trans (hs2 b (.inr hx))).trans (HSX.out b hx).1))))
  all_goals
    go_wp2_with fail
    go_ret
    exact ⟨rfl, _, H3.out, HS.out⟩
set_option maxRecDepth 100000 in
set_option maxHeartbeats 2000000 in
theorem step0 (h : Two w0 w P D RS X S S room T) (hT : T ≤ 1000) (xd xt xn : Int) (xa xb : ByteArray) (xo : Int) (ha : xa.size ≤ 9223372036854775807) (hb : xb.size ≤ 4096) :
    Calls Tryz.prog 17 #[Pq P, Pq D, StV 0 xd xt xn xa xb xo] w (StepE w0 w P D RS X room T) := by
  have hG := h.good
  have hH := h.hold hT
  have hr := h.rle
  obtain ⟨B, hB⟩ : ∃ B, w.heap.size = B := ⟨_, rfl⟩
  obtain ⟨w1, hw1⟩ : ∃ w1, w.alloc (.cells #[.int .i64 0, .int .i64 xd, .int .i64 xt, .int .i64 xn, .string xa, .string xb, .int .i64 xo] 29) = w1 := ⟨_, rfl⟩
  have hbel : Below w.heap.size w w1 := by rw [← hw1]; exact dn.below_alloc w _
  have hz : w1.heap.size = B + 1 := by rw [← hw1, World.size_alloc, hB]
  have H1 := Lib.hid (h.box (Y := fun b => b = B ∨ X b) hbel (fun b hb => by
    rcases hb with e | e
    · exact .inr (by omega)
    · exact .inl e))
  have HSX := Lib.hid (fun b (hx : X b) => (⟨hbel.block b (h.xlt hx), Nat.lt_of_lt_of_le (h.xlt hx) hbel.size⟩ : w1.heap[b]? = w.heap[b]? ∧ b < w1.heap.size))
  have b0 : w1.cell? ⟨B, 0, none⟩ = some (.int .i64 0) := by rw [← hw1, ← hB]; simp
  have b1 : w1.cell? ⟨B, 1, none⟩ = some (.int .i64 xd) := by rw [← hw1, ← hB]; simp
  have b4 : w1.cell? ⟨B, 4, none⟩ = some (.string xa) := by rw [← hw1, ← hB]; simp
  have b3 : w1.cell? ⟨B, 3, none⟩ = some (.int .i64 xn) := by rw [← hw1, ← hB]; simp
  have b5 : w1.cell? ⟨B, 5, none⟩ = some (.string xb) := by rw [← hw1, ← hB]; simp
  have HC := Lib.hid (fun W (h : Two w0 W P D RS (fun b => b = B ∨ X b) S S room T) => two_code h (fun Y hy => x_make hy hT xd xa xn xb ha (Nat.le_trans hb (by decide))))
  have HD := Lib.hid (fun W (h : Two w0 W P D RS (fun b => b = B ∨ X b) (S.make xd xa xn xb).2 S room (T + 1)) => two_doc h (fun pl tg hd => q_make hd hG xd xa xn xb ha (Nat.le_trans hb (by decide))))
  generalize S.make xd xa xn xb = r at HC HD
  obtain ⟨⟨r1, r2⟩, S'⟩ := r
  dsimp only at HC HD
  clear h hG hH hr hbel ha hb hT hz
  unfold StepE
  go_enter Tryz.func17, Tryz.ntmps17
  go_wp2_with fail
  clear hw1 hB
  refine (HC.out _ H1.out).mono ?_
  rintro e w2 ⟨rfl, h2, hs2⟩
  have c1 := (World.cell?_of_block (a := ⟨B, 1, none⟩) (hs2 B (.inl rfl))).trans b1
  have c4 := (World.cell?_of_block (a := ⟨B, 4, none⟩) (hs2 B (.inl rfl))).trans b4
  have c3 := (World.cell?_of_block (a := ⟨B, 3, none⟩) (hs2 B (.inl rfl))).trans b3
  have c5 := (World.cell?_of_block (a := ⟨B, 5, none⟩) (hs2 B (.inl rfl))).trans b5
  have H2 := Lib.hid h2
  have HS2 := Lib.hid hs2
  clear h2 hs2 HC
  go_wp2_with fail
  refine (HD.out _ H2.out).mono ?_
  rintro e w3 ⟨rfl, h3, hs3⟩
  have H3 := Lib.hid (h3.sub fun b hb => .inr hb)
  have HS := Lib.hid (fun b (hx : X b) => ((hs3 b (.inr hx)).trans (HS2.out b (.inr hx))).trans (HSX.out b hx).1)
  clear h3 hs3 HD HS2
  go_wp2_with fail
  go_ret
  exact ⟨rfl, _, H3.out, HS.out⟩
set_option maxRecDepth 100000 in
set_option maxHeartbeats 2000000 in
theorem step5 (h : Two w0 w P D RS X S S room T) (hT : T ≤ 1000) (xd xt xn : Int) (xa xb : ByteArray) (xo : Int) (ha : xa.size ≤ 9223372036854775807) (hb : xb.size ≤ 4096) :
    Calls Tryz.prog 17 #[Pq P, Pq D, StV 5 xd xt xn xa xb xo] w (StepE w0 w P D RS X room T) := by
  have hG := h.good
  have hH := h.hold hT
  have hr := h.rle
  obtain ⟨B, hB⟩ : ∃ B, w.heap.size = B := ⟨_, rfl⟩
  obtain ⟨w1, hw1⟩ : ∃ w1, w.alloc (.cells #[.int .i64 5, .int .i64 xd, .int .i64 xt, .int .i64 xn, .string xa, .string xb, .int .i64 xo] 29) = w1 := ⟨_, rfl⟩
  have hbel : Below w.heap.size w w1 := by rw [← hw1]; exact dn.below_alloc w _
  have hz : w1.heap.size = B + 1 := by rw [← hw1, World.size_alloc, hB]
  have H1 := Lib.hid (h.box (Y := fun b => b = B ∨ X b) hbel (fun b hb => by
    rcases hb with e | e
    · exact .inr (by omega)
    · exact .inl e))
  have HSX := Lib.hid (fun b (hx : X b) => (⟨hbel.block b (h.xlt hx), Nat.lt_of_lt_of_le (h.xlt hx) hbel.size⟩ : w1.heap[b]? = w.heap[b]? ∧ b < w1.heap.size))
  have b0 : w1.cell? ⟨B, 0, none⟩ = some (.int .i64 5) := by rw [← hw1, ← hB]; simp
  have b1 : w1.cell? ⟨B, 1, none⟩ = some (.int .i64 xd) := by rw [← hw1, ← hB]; simp
  have b6 : w1.cell? ⟨B, 6, none⟩ = some (.int .i64 xo) := by rw [← hw1, ← hB]; simp
  have b5 : w1.cell? ⟨B, 5, none⟩ = some (.string xb) := by rw [← hw1, ← hB]; simp
  have HG := Lib.hid hG
  obtain ⟨c5, w5, hcv, hc1, hc2, hb5, hlt5, hf5⟩ := conv_bytes w1 xb (by omega)
  have H5 := Lib.hid (H1.out.box (Y := fun b => b = B ∨ b = w1.heap.size ∨ X b) hb5 (fun b hb => by
    rcases hb with e | e | e
    · exact .inl (.inl e)
    · exact .inr (by omega)
    · exact .inl (.inr e)))
  have HSY := Lib.hid (fun b (hx : X b) => (hb5.block b (HSX.out b hx).2).trans (HSX.out b hx).1)
  have HC := Lib.hid (two_wcode H5.out xd xo (some ⟨w1.heap.size, 0, none⟩) xb.size c5 (sF xb) (fun j hj => ⟨w1.heap.size, 0, rfl, .inr (.inl rfl), hf5 j hj⟩) hc1 hc2)
  have hBl : B < w1.heap.size := by omega
  have c1 := (hb5.cell (p := ⟨B, 1, none⟩) hBl).trans b1
  have c6 := (hb5.cell (p := ⟨B, 6, none⟩) hBl).trans b6
  have c5 := (hb5.cell (p := ⟨B, 5, none⟩) hBl).trans b5
  have HCB := Lib.hid (fun W => conv_bytes W xb (by omega))
  clear h hG hH hr hbel ha hb hT hz hc1 hc2 hb5 hlt5 hf5 hBl
  unfold StepE
  go_enter Tryz.func17, Tryz.ntmps17
  go_wp2_with fail
  clear hw1 hB hcv b0 b1 b5 b6
  refine HC.out.mono ?_
  rintro e w6 ⟨p, err, S', hw, rfl, h6, hs6⟩
  have d1 := (World.cell?_of_block (a := ⟨B, 1, none⟩) (hs6 B (.inl rfl))).trans c1
  have d6 := (World.cell?_of_block (a := ⟨B, 6, none⟩) (hs6 B (.inl rfl))).trans c6
  have d5 := (World.cell?_of_block (a := ⟨B, 5, none⟩) (hs6 B (.inl rfl))).trans c5
  obtain ⟨c7, w7, hcv, hc1, hc2, hb7, hlt7, hf7⟩ := HCB.out w6
  have H7 := h6.box (Y := fun b => b = w6.heap.size ∨ X b) hb7 (fun b hb => by
    rcases hb with e | e
    · exact .inr (by omega)
    · exact .inl (.inr (.inr e)))
  have HSZ := Lib.hid (fun b (hx : X b) => ((hb7.block b (h6.xlt (.inr (.inr hx)))).trans (hs6 b (.inr (.inr hx)))).trans (HSY.out b hx))
  have HD := Lib.hid (two_wdoc H7 HG.out xd xo (some ⟨w6.heap.size, 0, none⟩) xb.size c7 (sF xb) (fun j hj => ⟨w6.heap.size, 0, rfl, .inl rfl, hf7 j hj⟩) hc1 hc2 hw)
  clear HC HCB H5 H1 h6 hs6 hc1 hc2 hb7 hlt7 hf7 H7 hw c1 c5 c6
  go_wp2_with fail
  refine HD.out.mono ?_
  rintro e w8 ⟨rfl, h8, hs8⟩
  have H8 := Lib.hid (h8.sub fun b hb => .inr hb)
  have HS := Lib.hid (fun b (hx : X b) => (hs8 b (.inr hx)).trans (HSZ.out b hx))
  clear h8 hs8 HSZ HD hcv
  go_wp2_with fail
  go_ret
  exact ⟨rfl, _, H8.out, HS.out⟩
set_option maxRecDepth 100000 in
set_option maxHeartbeats 2000000 in
theorem step6 (h : Two w0 w P D RS X S S room T) (hT : T ≤ 1000) (xd xt xn : Int) (xa xb : ByteArray) (xo : Int) (ha : xa.size ≤ 9223372036854775807) (hb : xb.size ≤ 4096) :
    Calls Tryz.prog 17 #[Pq P, Pq D, StV 6 xd xt xn xa xb xo] w (StepE w0 w P D RS X room T) := by
  have hG := h.good
  have hH := h.hold hT
  have hr := h.rle
  obtain ⟨B, hB⟩ : ∃ B, w.heap.size = B := ⟨_, rfl⟩
  obtain ⟨w1, hw1⟩ : ∃ w1, w.alloc (.cells #[.int .i64 6, .int .i64 xd, .int .i64 xt, .int .i64 xn, .string xa, .string xb, .int .i64 xo] 29) = w1 := ⟨_, rfl⟩
  have hbel : Below w.heap.size w w1 := by rw [← hw1]; exact dn.below_alloc w _
  have hz : w1.heap.size = B + 1 := by rw [← hw1, World.size_alloc, hB]
  have H1 := Lib.hid (h.box (Y := fun b => b = B ∨ X b) hbel (fun b hb => by
    rcases hb with e | e
    · exact .inr (by omega)
    · exact .inl e))
  have HSX := Lib.hid (fun b (hx : X b) => (⟨hbel.block b (h.xlt hx), Nat.lt_of_lt_of_le (h.xlt hx) hbel.size⟩ : w1.heap[b]? = w.heap[b]? ∧ b < w1.heap.size))
  have b0 : w1.cell? ⟨B, 0, none⟩ = some (.int .i64 6) := by rw [← hw1, ← hB]; simp
  have b1 : w1.cell? ⟨B, 1, none⟩ = some (.int .i64 xd) := by rw [← hw1, ← hB]; simp
  have b6 : w1.cell? ⟨B, 6, none⟩ = some (.int .i64 xo) := by rw [← hw1, ← hB]; simp
  have b3 : w1.cell? ⟨B, 3, none⟩ = some (.int .i64 xn) := by rw [← hw1, ← hB]; simp
  have HC := Lib.hid (two_read H1.out xd xo xn)
  have HD := Lib.hid (fun W (h : Two w0 W P D RS (fun b => b = B ∨ X b) S S room T) => two_rread h xd xo xn)
  have hBl : B < w1.heap.size := by omega
  unfold ReadI at HC
  generalize (readI S xd xo xn).1 = r1 at HC HD
  generalize (readI S xd xo xn).2 = n at HC HD
  generalize (fun j => (S.at xd).body.dat (xo.toNat + j)) = f at HC HD
  clear h hG hH hr hbel ha hb hT hz
  unfold StepE
  go_enter Tryz.func17, Tryz.ntmps17
  go_wp2_with fail
  clear hw1 hB
  refine HC.out.mono ?_
  rintro e w2 ⟨A2, c2', rfl, hr2, hb2⟩
  have c1 := (hb2.cell (p := ⟨B, 1, none⟩) hBl).trans b1
  have c6 := (hb2.cell (p := ⟨B, 6, none⟩) hBl).trans b6
  have c3 := (hb2.cell (p := ⟨B, 3, none⟩) hBl).trans b3
  have H2 := Lib.hid (H1.out.below hb2)
  have HR2 := Lib.hid hr2
  have HSY := Lib.hid (fun b (hx : X b) => (⟨(hb2.block b (HSX.out b hx).2).trans (HSX.out b hx).1, Nat.lt_of_lt_of_le (HSX.out b hx).2 hb2.size⟩ : w2.heap[b]? = w.heap[b]? ∧ b < w2.heap.size))
  have HD2 := Lib.hid (HD.out _ H2.out)
  clear hr2 hb2 HC HD H1 b0 b1 b3 b6
  go_wp2_with fail
  refine HD2.out.mono ?_
  rintro e w3 ⟨v3, rfl, hown, hb3⟩
  obtain ⟨A3, c3', rfl⟩ := own_ofslice hown
  have cv2 := (row_bel HR2.out hb3).conv
  have cv3 := conv_rowF hown
  have H3 := Lib.hid (((H2.out.below hb3).up (Nat.le_succ T)).sub fun b hb => .inr hb)
  have HS := Lib.hid (fun b (hx : X b) => (hb3.block b (HSY.out b hx).2).trans (HSY.out b hx).1)
  generalize strF n f = str at *
  clear hown hb3 HR2 HD2 H2 c1 c6 c3
  go_wp2_with fail
  go_ret
  exact ⟨rfl, _, H3.out, HS.out⟩
set_option maxRecDepth 100000 in
set_option maxHeartbeats 2000000 in
theorem stepO (h : Two w0 w P D RS X S S room T) (xk xd xt xn : Int) (xa xb : ByteArray) (xo : Int) (q : ∀ j : Int, j = 0 ∨ j = 1 ∨ j = 2 ∨ j = 3 ∨ j = 4 ∨ j = 5 ∨ j = 6 ∨ j = 7 ∨ j = 8 ∨ j = 9 ∨ j = 10 → (xk == j) = false) :
    Calls Tryz.prog 17 #[Pq P, Pq D, StV xk xd xt xn xa xb xo] w (StepE w0 w P D RS X room T) := by
  have H3 := Lib.hid (fun w1 (hb : Below w.heap.size w w1) => (⟨(h.below hb).up (Nat.le_succ T), fun b hx => hb.block b (h.xlt hx)⟩ : Two w0 w1 P D RS X S S room (T + 1) ∧ Same X w w1))
  have q0 := q 0 (by simp)
  have q1 := q 1 (by simp)
  have q2 := q 2 (by simp)
  have q3 := q 3 (by simp)
  have q4 := q 4 (by simp)
  have q5 := q 5 (by simp)
  have q6 := q 6 (by simp)
  have q7 := q 7 (by simp)
  have q8 := q 8 (by simp)
  have q9 := q 9 (by simp)
  have q10 := q 10 (by simp)
  clear h q
  unfold StepE
  go_enter Tryz.func17, Tryz.ntmps17
  go_wp2_with fail
  go_ret
  exact ⟨rfl, _, H3.out _ (dn.below_alloc _ _)⟩
theorem step_any (h : Two w0 w P D RS X S S room T) (hT : T ≤ 1000) (xk xd xt xn : Int) (xa xb : ByteArray) (xo : Int) (ha : xa.size ≤ 9223372036854775807) (hb : xb.size ≤ 4096) :
    Calls Tryz.prog 17 #[Pq P, Pq D, StV xk xd xt xn xa xb xo] w (StepE w0 w P D RS X room T) := by
  by_cases e0 : xk = 0
  · subst e0; exact step0 h hT xd xt xn xa xb xo ha hb
  by_cases e1 : xk = 1
  · subst e1; exact step1 h hT xd xt xn xa xb xo ha hb
  by_cases e2 : xk = 2
  · subst e2; exact step2 h hT xd xt xn xa xb xo ha hb
  by_cases e3 : xk = 3
  · subst e3; exact step3 h hT xd xt xn xa xb xo ha hb
  by_cases e4 : xk = 4
  · subst e4; exact step4 h hT xd xt xn xa xb xo ha hb
  by_cases e5 : xk = 5
  · subst e5; exact step5 h hT xd xt xn xa xb xo ha hb
  by_cases e6 : xk = 6
  · subst e6; exact step6 h hT xd xt xn xa xb xo ha hb
  by_cases e7 : xk = 7
  · subst e7; exact step7 h hT xd xt xn xa xb xo ha hb
  by_cases e8 : xk = 8
  · subst e8; exact step8 h hT xd xt xn xa xb xo ha hb
  by_cases e9 : xk = 9
  · subst e9; exact step9 h hT xd xt xn xa xb xo ha hb
  by_cases e10 : xk = 10
  · subst e10; exact step10 h hT xd xt xn xa xb xo ha hb
  exact stepO h xk xd xt xn xa xb xo fun j hj => by
    rcases hj with rfl | rfl | rfl | rfl | rfl | rfl | rfl | rfl | rfl | rfl | rfl <;> simpa using (by assumption)
end
end Go.Proofs.YtlelnpckbcpkkaaGreat.cb
