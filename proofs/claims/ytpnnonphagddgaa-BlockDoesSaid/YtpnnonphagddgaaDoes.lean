/- What the law BlockDoes calls, over both stores as one; its copies and what it spoils. -/
import Derived.Test.YtpnnonphagddgaaDuo
import Derived.Deep.RegionWith
import Derived.Lib.AppendZeros
namespace Go.Proofs.Ytpnnonphagddgaa
open Go.RowKit
set_option linter.unusedVariables false
set_option linter.unusedSimpArgs false

/-- The new footprints are the old ones, or blocks made since. -/
def New (u : World) (r r' : Nat → RX) : Prop := ∀ j, j < 4 → ∀ x, RFx (r' j) x → RFx (r j) x ∨ u.heap.size ≤ x
section
variable {w u : World} {g h S Q R k : Nat} {B M : Nat → Nat} {r : Nat → RX} {b c : Nat → AB}
theorem Duo.write (d : Duo w u g h S Q R 4 B M r b c) (hk : k < 4) (off : Int) (A : Option Addr) (len dc : Nat) (f : Nat → UInt8) (hA : BytesIn u (FP S 4 B M) A len f) (hlc : len ≤ dc) (hdc : dc ≤ maxLen) :
    Calls Try.prog 15 #[Pq S, Pq (B k), .int .i64 off, .slice A len dc] u (fun e w' => ∃ (p : Nat) (err : Int), e = .returned (.tuple #[.int .i64 (p : Int), .int .i64 err]) ∧ WR (b k) (tot 4 b) R off len p err ∧
      Duo w w' g h S Q R 4 B M r (updF b k (wr (b k) off p f)) c ∧ Only (FP S 4 B M) u w') := by
  refine (sys_write d.sys hk off A len dc f hA hlc hdc).mono ?_
  rintro e w' ⟨p, err, he, hw, hs, ho⟩
  exact ⟨p, err, he, hw, d.code hs ho, ho⟩
theorem Duo.newf {w' : World} {T' : Nat} {vB' vT' : Value} {x : RX} (hk : k < 4) (hf : ∀ y, RF x.C vB' vT' y → RFx (r k) y ∨ u.heap.size ≤ y) (e : x = ⟨(r k).C, vB', vT', T'⟩) : New u r (updF r k x) := by
  intro j hj y hy
  subst e
  by_cases e2 : j = k
  · subst e2; rw [updF_same] at hy; exact hf y hy
  · rw [updF_other e2] at hy; exact Or.inl hy
theorem Duo.rwrite (d : Duo w u g h S Q R 4 B M r b c) (hk : k < 4) (hok : (c k).Ok) (hle : tot 4 c ≤ R) (off : Int) (A : Option Addr) (len dc : Nat) (f : Nat → UInt8) (hA : BytesIn u (fun x => RFx (r k) x ∨ x = Q) A len f) (hlc : len ≤ dc) (hdc : dc ≤ maxLen) :
    Calls Try.prog 16 #[Pq Q, Pq (r k).C, .int .i64 off, .slice A len dc] u (fun e w' => ∃ (p : Nat) (err : Int) (r' : Nat → RX), e = .returned (.tuple #[.int .i64 (p : Int), .int .i64 err]) ∧ WR (c k) (tot 4 c) R off len p err ∧
      Duo w w' g h S Q R 4 B M r' b (updF c k (wr (c k) off p f)) ∧ New u r r' ∧ Only (fun x => RFx (r k) x ∨ x = Q) u w') := by
  refine (rwrite_any (d.rb k hk) hok d.sto (fun hx => (d.out k hk Q hx).2.2.2.2 rfl) (tot_le hk) hle d.sys.room hA hlc hdc d.bel.size).mono ?_
  rintro e w' ⟨p, err, vB, vT, T, he, hw, h2⟩
  exact ⟨p, err, _, he, hw, d.ref hk h2, Duo.newf (w' := w') hk h2.f rfl, h2.o⟩
theorem Duo.cutc (d : Duo w u g h S Q R 4 B M r b c) (hk : k < 4) (off : Int) :
    Calls Try.prog 19 #[Pq S, Pq (B k), .int .i64 off] u (fun e w' => e = .returned (.int .i64 (cutR off)) ∧ Duo w w' g h S Q R 4 B M r (updF b k (cut (b k) off)) c ∧ Only (FP S 4 B M) u w') := by
  refine (sys_cut d.sys hk off).mono ?_
  rintro e w' ⟨he, hs, ho⟩
  exact ⟨he, d.code hs ho, ho⟩
theorem Duo.free (d : Duo w u g h S Q R 4 B M r b c) (hk : k < 4) :
    Calls Try.prog 21 #[Pq S, Pq (B k)] u (fun e w' => e = .returned (.tuple #[]) ∧ Duo w w' g h S Q R 4 B M r (updF b k (cut (b k) 0)) c ∧ Only (FP S 4 B M) u w') := by
  refine (sys_free d.sys hk).mono ?_
  rintro e w' ⟨he, hs, ho⟩
  exact ⟨he, d.code hs ho, ho⟩
theorem Duo.rcut (d : Duo w u g h S Q R 4 B M r b c) (hk : k < 4) (hok : (c k).Ok) (hle : tot 4 c ≤ R) (off : Int) :
    Calls Try.prog 20 #[Pq Q, Pq (r k).C, .int .i64 off] u (fun e w' => e = .returned (.int .i64 (cutR off)) ∧ ∃ r', Duo w w' g h S Q R 4 B M r' b (updF c k (cut (c k) off)) ∧ New u r r' ∧ Only (fun x => RFx (r k) x ∨ x = Q) u w') := by
  refine (rcut_any (d.rb k hk) hok d.sto (fun hx => (d.out k hk Q hx).2.2.2.2 rfl) (tot_le hk) (Nat.le_trans hle d.sys.room) d.bel.size).mono ?_
  rintro e w' ⟨he, vB, vT, T, h2⟩
  exact ⟨he, _, d.ref hk h2, Duo.newf (w' := w') hk h2.f rfl, h2.o⟩
theorem Duo.read (d : Duo w u g h S Q R 4 B M r b c) (hk : k < 4) (off n : Int) : Calls Try.prog 17 #[Pq S, Pq (B k), .int .i64 off, .int .i64 n] u (ReadE u (b k) off n) := sys_read d.sys hk off n
theorem Duo.rread (d : Duo w u g h S Q R 4 B M r b c) (hk : k < 4) (hok : (c k).Ok) (off n : Int) : Calls Try.prog 18 #[Pq Q, Pq (r k).C, .int .i64 off, .int .i64 n] u (RReadE u (c k) off n) := rread_any (d.rb k hk) hok.size off n
theorem Duo.rsize (d : Duo w u g h S Q R 4 B M r b c) (hk : k < 4) : ∃ A cc, u.cell? ⟨(r k).C, 0, none⟩ = some (.slice A (c k).size cc) ∧ u.ownsRow w.heap.size 5 1 (.slice A (c k).size cc) (c k).size (rowF (c k).size (c k).dat) := by
  have h1 := d.rb k hk
  obtain ⟨A, cc, e⟩ := own_slice h1.rB
  exact ⟨A, cc, by rw [h1.c0, e], by rw [← e]; exact h1.rB⟩
/-- A block that is none of theirs may be turned. -/
theorem Duo.other {w' : World} {x : Nat} (d : Duo w u g h S Q R 4 B M r b c) (ho : Only (fun y => y = x) u w') (h0 : w.heap.size ≤ x) (h1 : ¬ FP S 4 B M x ∧ x ≠ g ∧ x ≠ h ∧ x ≠ Q ∧ ∀ k, k < 4 → ¬ RFx (r k) x) : Duo w w' g h S Q R 4 B M r b c :=
  d.keep ho fun y hy => by subst hy; exact ⟨h0, h1.1, h1.2.1, h1.2.2.1, h1.2.2.2.1, h1.2.2.2.2⟩
/-- What lies at or above a world that held them all is none of theirs. -/
theorem Duo.past (d : Duo w u g h S Q R 4 B M r b c) {x : Nat} (hx : u.heap.size ≤ x) : ¬ FP S 4 B M x ∧ x ≠ g ∧ x ≠ h ∧ x ≠ Q ∧ ∀ k, k < 4 → ¬ RFx (r k) x :=
  ⟨fun hf => by have := d.sys.ltF hf; omega, by have := d.gl; omega, by have := d.hl; omega, by have := d.ql; omega, fun k hk hf => by have := (d.rb k hk).ltF hf; omega⟩
end
/-- Bytes of the law's own, each to be turned: they lie from block lo on, below block hi. -/
def Spo (w : World) (lo hi : Nat) (A : Option Addr) (n : Nat) : Prop := ∀ i, i < n → ∃ x, A = some ⟨x, 0, none⟩ ∧ lo ≤ x ∧ x < hi ∧ x < w.heap.size ∧ (∃ z : Int, w.cell? ⟨x, i, none⟩ = some (.int .u8 z)) ∧ w.frozen? ⟨x, i, none⟩ = false
theorem Spo.only {w w' : World} {lo hi n : Nat} {A : Option Addr} {F : Nat → Prop} (h : Spo w lo hi A n) (ho : Only F w w') (hF : ∀ x, lo ≤ x → x < hi → ¬ F x) : Spo w' lo hi A n := fun i hi => by
  obtain ⟨x, e, h1, h2, h3, ⟨z, h4⟩, h5⟩ := h i hi
  have hb := ho.block x h3 (hF x h1 h2)
  exact ⟨x, e, h1, h2, Nat.lt_of_lt_of_le h3 ho.size, ⟨z, (World.cell?_of_block (a := ⟨x, i, none⟩) hb).trans h4⟩, (World.frozen?_of_block (a := ⟨x, i, none⟩) hb).trans h5⟩
theorem Spo.set {w : World} {lo hi n j x : Nat} {A : Option Addr} (h : Spo w lo hi A n) (hj : j < n) (e : A = some ⟨x, 0, none⟩) (z : Int) : Spo (w.setCell ⟨x, j, none⟩ (.int .u8 z)) lo hi A n := fun i hi => by
  obtain ⟨y, e2, h1, h2, h3, ⟨t, h4⟩, h5⟩ := h i hi
  have : x = y := by rw [e] at e2; injection e2 with e2; injection e2
  subst this
  refine ⟨x, e, h1, h2, by simpa [World.setCell] using h3, ?_, (World.frozen?_setCell _ _ _ _).trans h5⟩
  by_cases e3 : i = j
  · subst e3; exact ⟨z, World.cell?_setCell_same _ _ _ h4⟩
  · exact ⟨t, (World.cell?_setCell_other _ _ _ _ (by intro e4; injection e4 with _ e4; exact e3 e4.symm)).trans h4⟩
theorem spo_own {w : World} {lo n c : Nat} {A : Option Addr} {f : Nat → UInt8} (h : w.ownsRow lo 5 1 (.slice A n c) n (rowF n f)) : Spo w lo w.heap.size A n := fun i hi => by
  obtain ⟨x, c', e, h1, h2, h3⟩ := own_val h (rowF_get f hi) hi
  injection e with e1 e2
  subst e1
  exact ⟨x, rfl, h1, h2, h2, ⟨_, h3⟩, own_fro h i⟩
theorem spo_row {w : World} {lo n c : Nat} {A : Option Addr} {f : Nat → UInt8} (h : Row w lo A n c f) : Spo w lo w.heap.size A n := fun i hi => by
  rcases h.2 with ⟨_, h0⟩ | ⟨x, h1, h2, h3⟩
  · omega
  · have hl : x < w.heap.size := (Array.getElem?_eq_some_iff.1 h3).1
    refine ⟨x, h2, h1, hl, hl, ⟨((f i).toNat : Int), ?_⟩, ?_⟩
    · rw [cell_of_row _ _ i _ 5 (0, 0) h3]
      have := rowF_get f hi
      unfold U8 at this
      simpa using this
    · simp [World.frozen?, h3]
theorem own_bytes {w : World} {lo n c : Nat} {A : Option Addr} {f : Nat → UInt8} {F : Nat → Prop} (h : w.ownsRow lo 5 1 (.slice A n c) n (rowF n f)) (hF : ∀ x, F x → x < lo) : BytesIn w F A n f := fun i hi => by
  obtain ⟨x, c', e, h1, h2, h3⟩ := own_val h (rowF_get f hi) hi
  injection e with e1 e2
  subst e1
  exact ⟨x, 0, rfl, fun hf => by have := hF x hf; omega, h2, by rw [Nat.zero_add]; exact h3⟩
theorem own_conv {w : World} {lo n c : Nat} {A : Option Addr} {f : Nat → UInt8} (h : w.ownsRow lo 5 1 (.slice A n c) n (rowF n f)) : (convert 33 9 (.slice A n c)).run Try.prog w = .ok (.string (strF n f)) w :=
  (own_bytes (F := fun _ => False) h (fun _ hx => hx.elim)).conv
/-- An append of bytes, nil or not, onto a row that the call made and that is empty. -/
theorem run_append_nil (w : World) (base : Nat) (t ty e : TypeId) (i : TypeInfo) (size : Nat) (ht : Try.prog.underlying t = some (.slice e)) (hi : Try.prog.info? e = some i)
    (v : Value) (n : Nat) (xs : List Value) (hown : w.ownsRow base e size v n xs) (c : Nat) : (Builtin.append_ #[t, t] ty #[v, .slice none 0 c]).run Try.prog w = .ok v w := by
  rcases hown.2 with ⟨rfl, rfl⟩ | ⟨g, cap, cur, rfl, _, _, hnc, _⟩
  · simp [Builtin.append_, run_underlying ht, sizeOf, typeInfo, hi, Builtin.lenOf, Builtin.firstCells]
  · simp [Builtin.append_, run_underlying ht, sizeOf, typeInfo, hi, Builtin.lenOf, Builtin.firstCells, hnc, storeCells]
theorem wpList_copy {ops : Array Oper} {rest : List Oper} {o : Oper} {a : Act} {Q : Exit → Act → World → Prop} (w : World) (hgd : o.guard = none) (s x : Operand)
    (ho : o.op = .call { callee := .builtin .append, args := #[s, x], argTypes := #[33, 33] }) (base : Nat) (v : Value) (hs : a.eval s = v) (hown : w.ownsRow base 5 1 v 0 [])
    (A : Option Addr) (n c : Nat) (f : Nat → UInt8) (hx : a.eval x = .slice A n c) (hA : ∀ i, i < n → ∃ b off, A = some ⟨b, off, none⟩ ∧ w.cell? ⟨b, off + i, none⟩ = some (U8 (f i))) (hlen : n ≤ 65536) (hbase : base ≤ w.heap.size)
    (h : ∀ v' w', w'.ownsRow base 5 1 v' n (rowF n f) → w.grownBy w' v.ownBlock → wpList Try.prog ops Q rest (a.put o.dst v') w') : wpList Try.prog ops Q (o :: rest) a w := by
  obtain ⟨i0, hi, hz0, hz1, hz2⟩ := info_parts (P := Try.prog) (e := 5) (z := .int .u8 0) (size := 1) (bytes := 1) (by kernel_rfl)
  cases A with
  | none =>
    have hn : n = 0 := by
      by_cases h0 : 0 < n
      · obtain ⟨_, _, e, _⟩ := hA 0 h0; cases e
      · omega
    subst hn
    refine Lib.wpList_append_run w hgd s x 33 33 ho v _ hs hx v w (run_append_nil w base 33 o.type 5 i0 1 Try.underlying33 hi v _ _ hown c) ?_
    exact h v w hown (World.grownBy.refl w _)
  | some ad =>
    refine wpList_append_own w hgd s x 33 ho base 5 i0 _ 1 1 Try.underlying33 hi hz0 hz1 hz2 rfl (by decide) v 0 [] hs hown ad n c (rowF n f) hx (by rw [rowF_length]; omega) ?_ ?_ (by unfold maxLen; omega) (by omega) hbase ?_
    · intro j y hj
      by_cases hjn : j < n
      · rw [rowF_get f hjn] at hj
        injection hj with hj
        subst hj
        obtain ⟨bb, off, e, hc⟩ := hA j hjn
        injection e with e
        subst e
        rw [add0]
        exact hc
      · rw [List.getElem?_eq_none (by rw [rowF_length]; omega)] at hj; cases hj
    · intro y hy
      simp [rowF] at hy
      obtain ⟨_, _, rfl⟩ := hy
      rfl
    · intro v' w' h1 h2 _
      refine h v' w' ?_ h2
      simpa using h1
theorem large_len {x : Act5} (h : largeB x = false) : x.len ≤ 4096 := by
  unfold largeB at h
  simp at h
  omega
section
variable {w u : World} {g h S Q R k : Nat} {B M : Nat → Nat} {r : Nat → RX} {b c : Nat → AB}
theorem Duo.agk (d : Duo w u g h S Q R 4 B M r b c) (hk : k < 4) : u.cell? ⟨g, k, none⟩ = some (Pq (B k)) := by
  have h1 := d.ag k hk
  rw [if_pos hk] at h1
  exact h1
theorem Duo.ahk (d : Duo w u g h S Q R 4 B M r b c) (hk : k < 4) : u.cell? ⟨h, k, none⟩ = some (Pq (r k).C) := by
  have h1 := d.ah k hk
  rw [if_pos hk] at h1
  exact h1
end
theorem own_cap {w : World} {lo e n c : Nat} {A : Option Addr} {L : List Value} (h : w.ownsRow lo e 1 (.slice A n c) n L) : n ≤ c ∧ c ≤ maxLen := by
  rcases h.2 with ⟨h1, h2⟩ | ⟨g, cap, cur, h1, _, _, h2, h3, _⟩
  · injection h1 with h3 h4 h5
    subst h5
    exact ⟨by omega, by unfold maxLen; omega⟩
  · injection h1 with h4 h5 h6
    subst h6
    exact ⟨h2, h3⟩
theorem own_grown {w w' : World} (h : (w.alloc (.cells #[] 5)).grownBy w' (some w.heap.size)) : Below w.heap.size w w' :=
  (below_one w _).trans ⟨h.os, h.tape, h.output, Nat.le_trans (by simp) h.size, fun k hk => h.block k (by simp; omega) (by intro e; injection e with e; omega)⟩
/-- An act's copy in a block of the law's own. -/
structure Act1 (w : World) (l : Nat) (x : Act5) : Prop where
  c0 : w.cell? ⟨l, 0, none⟩ = some (.int .i64 x.kind)
  c1 : w.cell? ⟨l, 1, none⟩ = some (.int .i64 x.who)
  c2 : w.cell? ⟨l, 2, none⟩ = some (.int .i64 x.off)
  c3 : w.cell? ⟨l, 3, none⟩ = some (.int .i64 x.num)
  c4 : w.cell? ⟨l, 4, none⟩ = some (.slice x.A x.len x.cap)
  lt : l < w.heap.size
theorem Act1.only {w w' : World} {l : Nat} {x : Act5} {F : Nat → Prop} (h : Act1 w l x) (ho : Only F w w') (hF : ¬ F l) : Act1 w' l x :=
  have hb := ho.block l h.lt hF
  ⟨(World.cell?_of_block (a := ⟨l, 0, none⟩) hb).trans h.c0, (World.cell?_of_block (a := ⟨l, 1, none⟩) hb).trans h.c1, (World.cell?_of_block (a := ⟨l, 2, none⟩) hb).trans h.c2, (World.cell?_of_block (a := ⟨l, 3, none⟩) hb).trans h.c3, (World.cell?_of_block (a := ⟨l, 4, none⟩) hb).trans h.c4, Nat.lt_of_lt_of_le h.lt ho.size⟩
theorem Act1.below {w w' : World} {l : Nat} {x : Act5} (h : Act1 w l x) (hb : Below w.heap.size w w') : Act1 w' l x := h.only (F := fun _ => False) (Only.of_below hb) (fun h => h)
theorem Act1.drew {w : World} {l : Nat} {x : Act5} (h : Act1 w l x) : Act1 w.drew l x := h.below (Below.refl _ _).drew
theorem act1_new (w : World) (x : Act5) : Act1 (w.alloc (.cells #[.int .i64 x.kind, .int .i64 x.who, .int .i64 x.off, .int .i64 x.num, .slice x.A x.len x.cap] 38)) w.heap.size x :=
  ⟨by simp, by simp, by simp, by simp, by simp, by simp⟩
theorem below_drewN (w : World) (n : Nat) : Below w.heap.size w (w.drewN n) := ⟨rfl, rfl, rfl, Nat.le_refl _, fun _ _ => rfl⟩
end Go.Proofs.Ytpnnonphagddgaa
