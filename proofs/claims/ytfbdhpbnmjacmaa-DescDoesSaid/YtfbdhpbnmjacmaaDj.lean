/- The code's table and the document's, side by side. -/
import Derived.Test.YtfbdhpbnmjacmaaDk
namespace Go.Proofs.Ytfbdhpbnmjacmaa.ds
open Go.RowKit
open Go.Proofs.Ytfbdhpbnmjacmaa.pa (Bs Sv Strs Own own_form info9 own_base)
set_option linter.unusedVariables false
set_option linter.unusedSimpArgs false
/-- Two tables that the call made: the code's, the document's; the blocks X are neither's. -/
def ST (w0 w : World) (P D : Nat) (X : Nat → Prop) (T T' : Tb) : Prop := ∃ tg N, TbX w0 w P tg T ∧ RT w0 w D N T' ∧ tg D = 0 ∧ (∀ b, N b → tg b = 0) ∧ ∀ b, X b → b < w.heap.size ∧ tg b = 0 ∧ b ≠ D ∧ ¬ N b
def Ov (X : Nat → Prop) (w w' : World) (b : Nat) : Prop := X b ∨ (w.heap.size ≤ b ∧ b < w'.heap.size)
section
variable {w0 w w' : World} {P D : Nat} {X Y : Nat → Prop} {T T' : Tb}
theorem ST.bel (h : ST w0 w P D X T T') : Below w0.heap.size w0 w := by obtain ⟨_, _, h, _⟩ := h; exact h.bel
theorem ST.weaken (h : ST w0 w P D X T T') (hY : ∀ b, Y b → X b) : ST w0 w P D Y T T' := by obtain ⟨tg, N, h1, h2, h3, h4, hx⟩ := h; exact ⟨tg, N, h1, h2, h3, h4, fun b hb => hx b (hY b hb)⟩
theorem ST.forget (h : ST w0 w P D X T T') : ST w0 w P D No T T' := h.weaken fun _ h => h.elim
theorem ST.lt (h : ST w0 w P D X T T') {b : Nat} (hb : X b) : b < w.heap.size := by obtain ⟨_, _, _, _, _, _, hx⟩ := h; exact (hx b hb).1
theorem ST.over (h : ST w0 w P D X T T') (hb : Below w.heap.size w w') : ST w0 w' P D (Ov X w w') T T' := by
  obtain ⟨tg, N, h1, h2, h3, h4, hx⟩ := h
  refine ⟨tg, N, h1.below hb, h2.below hb, h3, h4, fun b hb2 => ?_⟩
  rcases hb2 with hq | ⟨q1, q2⟩
  · exact ⟨Nat.lt_of_lt_of_le (hx b hq).1 hb.size, (hx b hq).2⟩
  · refine ⟨q2, Classical.byContradiction fun e => ?_, fun e => ?_, fun e => ?_⟩
    · have := (h1.own b e).2; omega
    · have := h2.lo.2; omega
    · have := (h2.nD b e).2.2; omega
theorem ST.below (h : ST w0 w P D X T T') (hb : Below w.heap.size w w') : ST w0 w' P D X T T' := (h.over hb).weaken fun _ h => .inl h
theorem ST.same (h : ST w0 w P D X T T') (hb : Below w.heap.size w w') : Same X w w' := fun b hx => hb.block b (h.lt hx)
/-- What is neither's may be turned by others. -/
theorem ST.turn (h : ST w0 w P D X T T') {F : Nat → Prop} (ho : Only F w w') (hF : ∀ b, F b → X b ∧ w0.heap.size ≤ b) : ST w0 w' P D X T T' := by
  obtain ⟨tg, N, h1, h2, h3, h4, hx⟩ := h
  refine ⟨tg, N, h1.apart ho fun b hb => ⟨(hF b hb).2, (hx b (hF b hb).1).2.1⟩, h2.keep ho.size fun b hb => ho.block b ?_ fun hf => ?_, h3, h4, fun b hb => ⟨Nat.lt_of_lt_of_le (hx b hb).1 ho.size, (hx b hb).2⟩⟩
  · rcases hb with rfl | hb
    · exact h2.lo.2
    · exact (h2.nD b hb).2.2
  · have := (hx b (hF b hf).1).2
    rcases hb with rfl | hb
    · exact this.2.1 rfl
    · exact this.2.2 hb
theorem st_code {tg tg' : Nat → Nat} {N : Nat → Prop} {K : Tb} (h2 : RT w0 w D N T') (h3 : tg D = 0) (h4 : ∀ b, N b → tg b = 0) (hx : ∀ b, X b → b < w.heap.size ∧ tg b = 0 ∧ b ≠ D ∧ ¬ N b)
    (h' : TbX w0 w' P tg' K) (hk : Kp tg tg' w w') : ST w0 w' P D X K T' ∧ Same X w w' := by
  have hz : ∀ b, b < w.heap.size → tg b = 0 → tg' b = 0 := fun b hb e => Classical.byContradiction fun e2 => hk.tag b hb e2 e
  refine ⟨⟨tg', N, h', h2.keep hk.only.size fun b hb => hk.only.block b ?_ fun hf => ?_, hz D h2.lo.2 h3, fun b hb => hz b (h2.nD b hb).2.2 (h4 b hb), fun b hb => ⟨Nat.lt_of_lt_of_le (hx b hb).1 hk.only.size, hz b (hx b hb).1 (hx b hb).2.1, (hx b hb).2.2⟩⟩, fun b hb => hk.only.block b (hx b hb).1 (by rw [(hx b hb).2.1]; simp)⟩
  · rcases hb with rfl | hb
    · exact h2.lo.2
    · exact (h2.nD b hb).2.2
  · rcases hb with rfl | hb
    · exact hf h3
    · exact hf (h4 b hb)
theorem st_doc {tg : Nat → Nat} {N N' : Nat → Prop} {K : Tb} (h1 : TbX w0 w P tg T) (h2 : RT w0 w D N T') (h3 : tg D = 0) (h4 : ∀ b, N b → tg b = 0) (hx : ∀ b, X b → b < w.heap.size ∧ tg b = 0 ∧ b ≠ D ∧ ¬ N b)
    (h' : RT w0 w' D N' K) (hN : ∀ b, N' b → N b ∨ w.heap.size ≤ b) (ho : Only (fun b => b = D) w w') : ST w0 w' P D X T K ∧ Same X w w' := by
  refine ⟨⟨tg, N', h1.apart ho fun b hb => by subst hb; exact ⟨h2.lo.1, h3⟩, h', h3, fun b hb => ?_, fun b hb => ⟨Nat.lt_of_lt_of_le (hx b hb).1 ho.size, (hx b hb).2.1, (hx b hb).2.2.1, fun hn => ?_⟩⟩, fun b hb => ho.block b (hx b hb).1 (hx b hb).2.2.1⟩
  · rcases hN b hb with h | h
    · exact h4 b h
    · exact Classical.byContradiction fun e => by have := (h1.own b e).2; omega
  · rcases hN b hn with h | h
    · exact (hx b hb).2.2.2 h
    · have := (hx b hb).1; omega
variable {A : Option Addr} {n c : Nat} {d : De}
theorem s_open (h : ST w0 w P D X T T') (hd : DA w A n c d) (hm : n ≤ 1000) : Calls Try.prog 11 #[Pq P, DV A n c d] w (fun e w' => e = .returned (.tuple #[.int .i64 (lowV T).1, .int .i64 (lowV T).2]) ∧ ST w0 w' P D X (openT T d) T' ∧ Same X w w') := by
  obtain ⟨tg, N, h1, h2, h3, h4, hx⟩ := h
  exact (open_any h1 hd.len hm (Nat.le_refl _) hd.st).mono fun _ _ ⟨tg', he, q1, q2⟩ => ⟨he, st_code h2 h3 h4 hx q1 q2⟩
theorem s_set (h : ST w0 w P D X T T') (hd : DA w A n c d) (hm : n ≤ 1000) (fd : Int) : Calls Try.prog 16 #[Pq P, .int .i64 fd, DV A n c d] w (fun e w' => e = .returned (.int .i64 (errV T fd)) ∧ ST w0 w' P D X (setT T fd d) T' ∧ Same X w w') := by
  obtain ⟨tg, N, h1, h2, h3, h4, hx⟩ := h
  exact (set_any h1 fd hd.len hm (Nat.le_refl _) hd.st).mono fun _ _ ⟨tg', he, q1, q2⟩ => ⟨he, st_code h2 h3 h4 hx q1 q2⟩
theorem s_close (h : ST w0 w P D X T T') (fd : Int) : Calls Try.prog 13 #[Pq P, .int .i64 fd] w (fun e w' => ∃ A c, e = .returned (.tuple #[DV A (getV T fd).1.ns.length c (getV T fd).1, .int .i64 (getV T fd).2]) ∧ Own w' w.heap.size A c (getV T fd).1.ns ∧ ST w0 w' P D (Ov X w w') (closeT T fd) T' ∧ Same X w w') := by
  obtain ⟨tg, N, h1, h2, h3, h4, hx⟩ := h
  exact (close_any h1 fd).mono fun _ _ ⟨A, c, he, q1, q2, q3⟩ => by
    obtain ⟨⟨tg', N', a1, a2, a3, a4, a5⟩, s⟩ := st_code h2 h3 h4 hx q2 q3
    refine ⟨A, c, he, q1, ⟨tg, N, q2, ?_, h3, h4, fun b hb => ?_⟩, s⟩
    · exact h2.keep q3.only.size fun b hb => q3.only.block b (by rcases hb with rfl | hb; exact h2.lo.2; exact (h2.nD b hb).2.2) fun hf => by
        rcases hb with rfl | hb
        · exact hf h3
        · exact hf (h4 b hb)
    · rcases hb with hq | ⟨p1, p2⟩
      · exact ⟨Nat.lt_of_lt_of_le (hx b hq).1 q3.only.size, (hx b hq).2⟩
      · refine ⟨p2, Classical.byContradiction fun e => ?_, fun e => ?_, fun e => ?_⟩
        · have := (h1.own b e).2; omega
        · have := h2.lo.2; omega
        · have := (h2.nD b e).2.2; omega
theorem s_get (h : ST w0 w P D X T T') (fd : Int) : Calls Try.prog 18 #[Pq P, .int .i64 fd] w (GetE w (getV T fd)) := by obtain ⟨_, _, h, _⟩ := h; exact get_any h fd
theorem s_full (h : ST w0 w P D X T T') : Calls Try.prog 23 #[Pq P] w (StE w (.bool (full T))) := by obtain ⟨_, _, h, _⟩ := h; exact full_any h
theorem s_all (h : ST w0 w P D X T T') : Calls Try.prog 21 #[Pq P] w (IntsE w (allT T 32)) := by obtain ⟨_, _, h, _⟩ := h; exact all_any h
theorem t_open (h : ST w0 w P D X T T') (hd : DA w A n c d) (hm : n ≤ 1000) : Calls Try.prog 12 #[Pq D, DV A n c d] w (fun e w' => e = .returned (.tuple #[.int .i64 (lowV T').1, .int .i64 (lowV T').2]) ∧ ST w0 w' P D X T (openT T' d) ∧ Same X w w') := by
  obtain ⟨tg, N, h1, h2, h3, h4, hx⟩ := h
  exact (r_open h2 hd hm h1.bel.size).mono fun _ _ ⟨he, N', q1, q2, q3⟩ => ⟨he, st_doc h1 h2 h3 h4 hx q1 q2 q3⟩
theorem t_set (h : ST w0 w P D X T T') (hd : DA w A n c d) (hm : n ≤ 1000) (fd : Int) : Calls Try.prog 17 #[Pq D, .int .i64 fd, DV A n c d] w (fun e w' => e = .returned (.int .i64 (errV T' fd)) ∧ ST w0 w' P D X T (setT T' fd d) ∧ Same X w w') := by
  obtain ⟨tg, N, h1, h2, h3, h4, hx⟩ := h
  exact (r_set h2 fd hd hm h1.bel.size).mono fun _ _ ⟨he, N', q1, q2, q3⟩ => ⟨he, st_doc h1 h2 h3 h4 hx q1 q2 q3⟩
theorem t_close (h : ST w0 w P D X T T') (fd : Int) : Calls Try.prog 14 #[Pq D, .int .i64 fd] w (fun e w' => ∃ A c, e = .returned (.tuple #[DV A (getV T' fd).1.ns.length c (getV T' fd).1, .int .i64 (getV T' fd).2]) ∧ Own w' w.heap.size A c (getV T' fd).1.ns ∧ ST w0 w' P D X T (closeT T' fd) ∧ Same X w w') := by
  obtain ⟨tg, N, h1, h2, h3, h4, hx⟩ := h
  exact (r_close h2 fd).mono fun _ _ ⟨A, c, he, ho, N', q1, q2, q3⟩ => ⟨A, c, he, ho, st_doc h1 h2 h3 h4 hx q1 q2 q3⟩
theorem t_get (h : ST w0 w P D X T T') (fd : Int) : Calls Try.prog 19 #[Pq D, .int .i64 fd] w (GetE w (getV T' fd)) := by obtain ⟨_, _, _, h, _⟩ := h; exact r_get h fd
theorem t_all (h : ST w0 w P D X T T') : Calls Try.prog 22 #[Pq D] w (IntsE w (allT T' 32)) := by obtain ⟨_, _, _, h, _⟩ := h; exact r_all h
end
theorem st_new {w0 w : World} {P : Nat} {T : Tb} (h : TY w0 w P No T) (t : TypeId) : ST w0 (w.alloc (.cells Z33.toArray t)) P w.heap.size No T em := by
  obtain ⟨tg, h, _⟩ := h
  refine ⟨tg, No, h.below (below_alloc w _), rt_new h.bel.size, ?_, fun b hb => hb.elim, fun b hb => hb.elim⟩
  exact Classical.byContradiction fun e => by have := (h.own _ e).2; omega
end Go.Proofs.Ytfbdhpbnmjacmaa.ds
