/- Part 55 of what is known of the program's functions and of the document's words: contracts, and the mathematics beneath them. -/
import Derived.Test.YtpmpbmjjlccbbaaGreatProg
import Derived.Test.YtpmpbmjjlccbbaaGreatZ20
import Derived.Test.YtpmpbmjjlccbbaaGreatZ33
import Derived.Laws.AppendOwn
import Derived.Lib.AppendStr
import Derived.Laws.IdiomStrings
import Derived.Deep.RegionLaw
import Derived.Lib.AppendZeros
import Derived.Laws.OwnMore
import Derived.StillTailTactics
set_option linter.unusedVariables false
set_option linter.unusedSimpArgs false
set_option maxRecDepth 100000
set_option maxHeartbeats 8000000
namespace Go.Proofs.YtpmpbmjjlccbbaaGreat.cb
open Go.RowKit
open br
open bl (AB Pq U8)
def bytesV (L : List UInt8) : List Value := L.map U8
theorem bytesV_append (L M : List UInt8) : bytesV (L ++ M) = bytesV L ++ bytesV M := by simp [bytesV]
theorem bytesV_one (L : List UInt8) : ∀ u ∈ bytesV L, u.oneCell' = true := by
 intro u hu
 simp only [bytesV, List.mem_map] at hu
 obtain ⟨x, _, rfl⟩ := hu
 rfl
def nb (n : Int) : UInt8 := UInt8.ofNat (n % 256).toNat
theorem nb_val (n : Int) : (.int .u8 (n % 256) : Value) = U8 (nb n) := by
 unfold nb U8
 have h1 : 0 ≤ n % 256 := Int.emod_nonneg _ (by decide)
 have h2 : n % 256 < 256 := Int.emod_lt_of_pos _ (by decide)
 congr 1
 rw [UInt8.toNat_ofNat']
 have : (n % 256).toNat % 2 ^ 8 = (n % 256).toNat := Nat.mod_eq_of_lt (by omega)
 rw [this]; omega
def num3 (n : Int) : List UInt8 := [nb n, nb (n / 256), nb (n / 65536)]
structure OutR (w wr : World) (O : Nat) (L : List UInt8) : Prop where
 lo : w.heap.size ≤ O
 lt : O < wr.heap.size
 bel : Below w.heap.size w wr
 fz : wr.frozen? ⟨O, 0, none⟩ = false
 ty : ∃ X fr, wr.heap[O]? = some (.cells X 80 fr)
 row : ∃ A c, wr.cell? ⟨O, 0, none⟩ = some (.slice A L.length c) ∧ wr.ownsRow w.heap.size 5 1 (.slice A L.length c) L.length (bytesV L)
theorem own_of_block {w w' : World} {base n : Nat} {A : Option Addr} {c : Nat} {xs : List Value} (h : w.ownsRow base 5 1 (.slice A n c) n xs) (hb : ∀ G, (Value.slice A n c).ownBlock = some G → w'.heap[G]? = w.heap[G]?) : w'.ownsRow base 5 1 (.slice A n c) n xs := by
 refine ⟨h.1, ?_⟩
 rcases h.2 with h0 | ⟨g, cap, cur, hv, hbs, hg, r⟩
 ·exact .inl h0
 ·exact .inr ⟨g, cap, cur, hv, hbs, (hb g (by rw [hv]; rfl)).trans hg, r⟩
theorem own_form {w : World} {base n : Nat} {v : Value} {xs : List Value} (h : w.ownsRow base 5 1 v n xs) : ∃ A c, v = .slice A n c := by
 rcases h.2 with ⟨rfl, rfl⟩ | ⟨g, cap, cur, rfl, _⟩
 ·exact ⟨none, 0, rfl⟩
 ·exact ⟨_, _, rfl⟩
theorem own_at {w : World} {base n c : Nat} {A : Option Addr} {xs : List Value} (h : w.ownsRow base 5 1 (.slice A n c) n xs) : ∀ G, (Value.slice A n c).ownBlock = some G → base ≤ G ∧ G < w.heap.size := by
 intro G e
 rcases h.2 with ⟨h0, _⟩ | ⟨g, cap, cur, hv, hbs, hg, _⟩
 ·rw [h0] at e; cases e
 ·rw [hv] at e
  injection e with e
  have e' : g = G := e
  subst e'
  exact ⟨hbs, (Array.getElem?_eq_some_iff.1 hg).1⟩
def Kp (O : Nat) (wr w' : World) : Prop := ∀ b X t fr, wr.heap[b]? = some (.cells X t fr) → t ≠ 5 → b ≠ O → w'.heap[b]? = wr.heap[b]?
theorem Kp.of_below {O : Nat} {wr w' : World} (h : Below wr.heap.size wr w') : Kp O wr w' := fun b X t fr hb _ _ => h.block b (Array.getElem?_eq_some_iff.1 hb).1
theorem Kp.trans {O : Nat} {w1 w2 w3 : World} (h : Kp O w1 w2) (k : Kp O w2 w3) : Kp O w1 w3 := fun b X t fr hb ht hO => by
 have e := h b X t fr hb ht hO
 exact (k b X t fr (e.trans hb) ht hO).trans e
theorem own_type {w : World} {base n c : Nat} {A : Option Addr} {xs : List Value} (h : w.ownsRow base 5 1 (.slice A n c) n xs) {b : Nat} {X : Array Value} {t : TypeId} {fr : Nat × Nat} (hb : w.heap[b]? = some (.cells X t fr)) (ht : t ≠ 5) : (Value.slice A n c).ownBlock ≠ some b := by
 intro e
 rcases h.2 with ⟨h0, _⟩ | ⟨g, cap, cur, hv, hbs, hg, _⟩
 ·rw [h0] at e; cases e
 ·rw [hv] at e
  injection e with e
  have e' : g = b := e
  subst e'
  rw [hg] at hb
  injection hb with hb
  injection hb with _ hb _
  exact ht hb.symm
theorem OutR.below {w wr w' : World} {O : Nat} {L : List UInt8} (h : OutR w wr O L) (hb : Below wr.heap.size wr w') : OutR w w' O L := by
 obtain ⟨A, c, h1, h2⟩ := h.row
 exact ⟨h.lo, Nat.lt_of_lt_of_le h.lt hb.size, h.bel.trans (hb.mono h.bel.size), (hb.frozen (p := ⟨O, 0, none⟩) h.lt).trans h.fz, (by obtain ⟨X, fr, e⟩ := h.ty; exact ⟨X, fr, (hb.block O h.lt).trans e⟩), A, c, (hb.cell (p := ⟨O, 0, none⟩) h.lt).trans h1, own_of_block h2 fun G e => hb.block G (own_at h2 G e).2⟩
theorem setCell_ty {w : World} {g i : Nat} {cs : Array Value} {t : TypeId} {fr : Nat × Nat} (h : w.heap[g]? = some (.cells cs t fr)) (v : Value) : (w.setCell ⟨g, i, none⟩ v).heap[g]? = some (.cells (cs.setIfInBounds i v) t fr) := by
 rw [setCell_eq_setRow w g i cs t fr v h]
 exact setRow_heap w g _ _ t _ h
theorem OutR.app {w wr w1 : World} {O : Nat} {L M : List UInt8} {A : Option Addr} {c : Nat} {v' : Value} (h : OutR w wr O L) (hv : wr.ownsRow w.heap.size 5 1 (.slice A L.length c) L.length (bytesV L)) (hown : w1.ownsRow w.heap.size 5 1 v' (L.length + M.length) (bytesV L ++ bytesV M)) (hg : wr.grownBy w1 (Value.slice A L.length c).ownBlock) :
  w1.cell? ⟨O, 0, none⟩ = wr.cell? ⟨O, 0, none⟩ ∧ w1.frozen? ⟨O, 0, none⟩ = false ∧ (∃ A' c', v' = .slice A' (L.length + M.length) c') ∧ OutR w (w1.setCell ⟨O, 0, none⟩ v') O (L ++ M) ∧ Kp O wr (w1.setCell ⟨O, 0, none⟩ v') := by
 obtain ⟨A', c', rfl⟩ := own_form hown
 have hne : ∀ G, (Value.slice A L.length c).ownBlock = some G → w.heap.size ≤ G := fun G e => (own_at hv G e).1
 obtain ⟨XO, frO, hXO⟩ := h.ty
 have hbO : w1.heap[O]? = wr.heap[O]? := hg.block O h.lt fun e => own_type hv hXO (by decide) e.symm
 have hc : w1.cell? ⟨O, 0, none⟩ = wr.cell? ⟨O, 0, none⟩ := World.cell?_of_block (a := ⟨O, 0, none⟩) hbO
 have hf : w1.frozen? ⟨O, 0, none⟩ = false := (World.frozen?_of_block (a := ⟨O, 0, none⟩) hbO).trans h.fz
 obtain ⟨A0, c0, k1, _⟩ := h.row
 refine ⟨hc, hf, ⟨A', c', rfl⟩, ⟨h.lo, by simp [World.setCell]; exact Nat.lt_of_lt_of_le h.lt hg.size, ((h.bel.grown hg h.bel.size fun k e => hne k e)).setCell h.lo _, by rw [World.frozen?_setCell]; exact hf, ⟨_, frO, setCell_ty (hbO.trans hXO) _⟩, A', c', ?_, ?_⟩, fun b X t fr hb ht hO => ?_⟩
 ·rw [List.length_append]
  exact World.cell?_setCell_same' _ _ _ (by rw [hc, k1]; rfl)
 ·rw [List.length_append, bytesV_append]
  exact own_of_block hown fun G e => Below.heap_setCell _ _ _ _ (fun e1 => own_type hown (hbO.trans hXO) (by decide) (by rw [e, e1]))
 ·exact (Below.heap_setCell _ _ _ _ hO).trans (hg.block b (Array.getElem?_eq_some_iff.1 hb).1 (fun e => own_type hv hb ht e.symm))
theorem info5 : (Tryz.prog.info? 5).map (fun i => (i.zero, i.size, i.bytes)) = some (some (.int .u8 0), 1, 1) := by kernel_rfl
theorem news3 (W : World) (a b c : Value) : ∀ j u, ([a, b, c] : List Value)[j]? = some u → (W.alloc (.cells #[a, b, c] 5)).cell? ((⟨W.heap.size, 0, none⟩ : Addr).add j) = some u := by
 intro j u hu
 rw [bl.add0, Nat.zero_add]
 have : ([a, b, c] : List Value) = (#[a, b, c] : Array Value).toList := rfl
 rw [this, Array.getElem?_toList] at hu
 simpa using hu
theorem num3_val (k : Int) : ([.int .u8 (k % 256), .int .u8 (k / 256 % 256), .int .u8 (k / 65536 % 256)] : List Value) = bytesV (num3 k) := by
 rw [nb_val, nb_val, nb_val]; rfl
theorem num_any {w wr : World} {O : Nat} {L : List UInt8} (h : OutR w wr O L) (hL : L.length ≤ 100000000) (k : Int) : Calls Tryz.prog 54 #[.int .i64 k, .pointer (some ⟨O, 0, none⟩)] wr (fun e w' => e = .returned (.tuple #[]) ∧ OutR w w' O (L ++ num3 k) ∧ Kp O wr w') := by
 obtain ⟨A, c, h1, h2⟩ := h.row
 obtain ⟨i0, hi, hz0, hz1, hz2⟩ := info_parts info5
 have HV := Lib.hid (fun ob => own_of_block (w' := wr.alloc ob) h2 fun G e => (dn.below_alloc wr ob).block G (own_at h2 G e).2)
 have HAPP := Lib.hid (fun ob v' (w1 : World) (hown : w1.ownsRow w.heap.size 5 1 v' (L.length + 3) (bytesV L ++ bytesV (num3 k))) hg => (h.below (dn.below_alloc wr ob)).app (M := num3 k) (HV.out ob) hown hg)
 have h1' := fun ob => ((dn.below_alloc wr ob).cell (p := ⟨O, 0, none⟩) h.lt).trans h1
 have HLT := Lib.hid (h.bel.size)
 have hn0 : (num3 k).length = 3 := rfl
 rw [hn0] at HAPP
 generalize hn : L.length = n at *
 clear h h2 hn hn0
 go_enter Tryz.func54, Tryz.ntmps54
 go_wp2_with (at_builtin; refine wpList_append_own _ rfl (.tmp 3) (.tmp 12) 80 rfl w.heap.size 5 i0 _ 1 1 Tryz.underlying80 hi hz0 hz1 hz2 rfl (by decide) _ n (bytesV L) rfl (HV.out _) ⟨wr.heap.size, 0, none⟩ 3 3 (bytesV (num3 k)) rfl rfl (by rw [← num3_val]; exact news3 wr _ _ _) (bytesV_one _) (by unfold maxLen; omega) (by omega) (by have := HLT.out; simp; omega) ?_; intro v1 w3 hown1 hgrow1 _; obtain ⟨z1, z2, ⟨A2, c2, rfl⟩, z4, z5⟩ := HAPP.out _ _ _ hown1 hgrow1; rw [h1' _] at z1; have HZ := Lib.hid (And.intro z4 ((Kp.of_below (dn.below_alloc wr _)).trans z5)); clear z4 z5 hown1 hgrow1 HAPP HV)
 go_end0
 exact ⟨rfl, HZ.out.1, HZ.out.2⟩
end Go.Proofs.YtpmpbmjjlccbbaaGreat.cb
namespace Go.Proofs.YtpmpbmjjlccbbaaGreat.cb
open Go.RowKit
open br
open dn (En nerr)
open bl (AB Pq U8)
def entB : List En → List UInt8
 | [] => []
 | e :: l => e.1.data.toList ++ num3 e.2 ++ entB l
theorem entB_append (l m : List En) : entB (l ++ m) = entB l ++ entB m := by
 induction l with
 | nil => rfl
 | cons e l ih => simp [entB, ih]
theorem entB_take {L : List En} {k : Nat} {x : En} (h : L[k]? = some x) : entB (L.take (k + 1)) = entB (L.take k) ++ x.1.data.toList ++ num3 x.2 := by
 rw [List.take_add_one, h, entB_append]
 simp [entB]
def contN (S : BS) (i : Nat) : Nat := (readI S (i : Int) 0 65536).2
def contB (S : BS) (i : Nat) : List UInt8 := (List.range (contN S i)).map fun j => (S.at (i : Int)).body.dat ((0 : Int).toNat + j)
def tarB (S : BS) (i : Nat) : List UInt8 := (S.targetOf (i : Int)).1.data.toList
def headB (S : BS) (i : Nat) : List UInt8 := num3 (i : Int) ++ num3 (S.stat (i : Int)).1.1 ++ num3 ((S.stat (i : Int)).1.2.1 : Int) ++ num3 (S.stat (i : Int)).1.2.2
def inoB (S : BS) (i : Nat) : List UInt8 := if S.isI (i : Int) = true then headB S i ++ tarB S i ++ contB S i ++ entB (S.all (i : Int)).1 else []
def upB (S : BS) : Nat → List UInt8
 | 0 => num3 (S.used : Int)
 | k + 1 => upB S k ++ inoB S (k + 1)
def toldS (S : BS) : ByteArray := ⟨(upB S 200).toArray⟩
theorem num3_len (k : Int) : (num3 k).length = 3 := rfl
theorem head_len (S : BS) (i : Nat) : (headB S i).length = 12 := by unfold headB; simp [num3_len]
theorem tar_len {S : BS} {room : Nat} (h : br.Good S room) (i : Nat) : (tarB S i).length ≤ 400 := by
 unfold tarB BS.targetOf
 have := h.1.target i
 split
 ·simp
 ·split
  ·simp
  ·rw [at_nat]; simpa using this
theorem cont_len {S : BS} {room : Nat} (h : br.Good S room) (i : Nat) : contN S i ≤ 65536 := by
 unfold contN readI
 split
 ·exact Nat.zero_le _
 ·unfold bl.readR
  split
  ·exact Nat.zero_le _
  ·exact Nat.le_trans (Nat.min_le_left _ _) (by decide)
theorem contB_len (S : BS) (i : Nat) : (contB S i).length = contN S i := by simp [contB]
theorem ent_len : ∀ {L : List En}, (∀ e ∈ L, nerr e.1.data.toList = 0) → (entB L).length ≤ L.length * 63
 | [], _ => Nat.le_refl _
 | e :: l, h => by
  have h1 := nerr_len (h e (by simp))
  have h2 := ent_len (L := l) fun x hx => h x (by simp [hx])
  have e1 : e.1.data.toList.length = e.1.size := Array.length_toList
  simp only [entB, List.length_append, num3_len, List.length_cons, e1]
  omega
theorem all_facts {S : BS} {room : Nat} (h : br.Good S room) (i : Nat) : (S.all (i : Int)).1.length ≤ 4000 ∧ ∀ e ∈ (S.all (i : Int)).1, nerr e.1.data.toList = 0 := by
 unfold BS.all
 split
 ·exact ⟨Nat.zero_le _, by simp⟩
 ·rw [at_nat]; exact ⟨tr.dir_len h.1 i, fun e he => (h.1.good i e he).1⟩
theorem ino_len {S : BS} {room : Nat} (h : br.Good S room) (i : Nat) : (inoB S i).length ≤ 330000 := by
 unfold inoB
 split
 ·have h1 := head_len S i
  have h2 := tar_len h i
  have h3 := contB_len S i
  have h4 := cont_len h i
  have h5 := all_facts h i
  have h6 := ent_len h5.2
  simp only [List.length_append]
  omega
 ·exact Nat.zero_le _
theorem up_len {S : BS} {room : Nat} (h : br.Good S room) (k : Nat) : (upB S k).length ≤ 3 + k * 330000 := by
 induction k with
 | zero => exact Nat.le_refl _
 | succ k ih =>
  have := ino_len h (k + 1)
  simp only [upB, List.length_append]
  omega
theorem rowU {w : World} {lo n c : Nat} {A : Option Addr} {f : Nat → UInt8} (h : bl.Row w lo A n c f) : (A = none ∧ n = 0) ∨ ∃ g, A = some ⟨g, 0, none⟩ ∧ ∀ j u, (bytesV ((List.range n).map f))[j]? = some u → w.cell? ((⟨g, 0, none⟩ : Addr).add j) = some u := by
 rcases h.2 with h0 | ⟨g, _, e, hg⟩
 ·exact .inl h0
 ·refine .inr ⟨g, e, fun j u hu => ?_⟩
  rw [bl.add0, Nat.zero_add, cell_of_row _ _ j _ 5 (0, 0) hg]
  have : bytesV ((List.range n).map f) = bl.rowF n f := by unfold bytesV bl.rowF; rw [List.map_map]; rfl
  rw [this] at hu
  simpa using hu
theorem strCells_eq (s : ByteArray) : Lib.strCells s = bytesV s.data.toList := by
 unfold Lib.strCells bytesV U8; rfl
structure TS (w wr : World) (O n : Nat) (L : List UInt8) (Q : World → Prop) : Prop where
 o : OutR w wr O L
 le : L.length ≤ n
 q : Q wr
def KpS (O : Nat) (Q : World → Prop) : Prop := ∀ wr w', Kp O wr w' → Q wr → Q w'
theorem TS.below {w wr w' : World} {O n : Nat} {L : List UInt8} {Q : World → Prop} (h : TS w wr O n L Q) (hQ : KpS O Q) (hb : Below wr.heap.size wr w') : TS w w' O n L Q := ⟨h.o.below hb, h.le, hQ _ _ (Kp.of_below hb) h.q⟩
theorem TS.num {w wr : World} {O n : Nat} {L : List UInt8} {Q : World → Prop} (h : TS w wr O n L Q) (hQ : KpS O Q) (hn : n ≤ 100000000) (k : Int) : Calls Tryz.prog 54 #[.int .i64 k, Pq O] wr (fun e w' => e = .returned (.tuple #[]) ∧ TS w w' O (n + 3) (L ++ num3 k) Q) :=
 (num_any h.o (Nat.le_trans h.le hn) k).mono fun _ _ ⟨he, h1, h2⟩ => ⟨he, h1, by have := h.le; simp only [List.length_append, num3_len]; omega, hQ _ _ h2 h.q⟩
theorem TS.sub {w wr : World} {O n m : Nat} {L L' : List UInt8} {Q Q' : World → Prop} (h : TS w wr O n L Q) (hm : L'.length ≤ m) (e : L = L') (hq : Q wr → Q' wr) : TS w wr O m L' Q' := ⟨e ▸ h.o, hm, hq h.q⟩
theorem TS.row {w wr : World} {O n : Nat} {L : List UInt8} {Q : World → Prop} (h : TS w wr O n L Q) : ∃ m A c, m = L.length ∧ m ≤ n ∧ wr.cell? ⟨O, 0, none⟩ = some (.slice A m c) ∧ wr.frozen? ⟨O, 0, none⟩ = false ∧ wr.ownsRow w.heap.size 5 1 (.slice A m c) m (bytesV L) ∧ w.heap.size ≤ wr.heap.size := by
 obtain ⟨A, c, h1, h2⟩ := h.o.row
 exact ⟨_, A, c, rfl, h.le, h1, h.o.fz, h2, h.o.bel.size⟩
theorem TS.app {w wr w1 : World} {O n p q : Nat} {L M : List UInt8} {xs : List Value} {Q : World → Prop} {A : Option Addr} {c m : Nat} {v' : Value} (h : TS w wr O n L Q) (hQ : KpS O Q) (hm : m = L.length) (hv : wr.ownsRow w.heap.size 5 1 (.slice A m c) m (bytesV L)) (hM : M.length = p) (hp : p ≤ q) (hx : xs = bytesV M) (hown : w1.ownsRow w.heap.size 5 1 v' (m + p) (bytesV L ++ xs)) (hg : wr.grownBy w1 (Value.slice A m c).ownBlock) :
  w1.cell? ⟨O, 0, none⟩ = wr.cell? ⟨O, 0, none⟩ ∧ w1.frozen? ⟨O, 0, none⟩ = false ∧ (∃ A' c', v' = .slice A' (m + p) c') ∧ TS w (w1.setCell ⟨O, 0, none⟩ v') O (n + q) (L ++ M) Q := by
 subst hm hM hx
 obtain ⟨h1, h2, h3, h4, h5⟩ := h.o.app hv hown hg
 exact ⟨h1, h2, h3, h4, by have := h.le; simp only [List.length_append]; omega, hQ _ _ h5 h.q⟩
def Bxs (B : Nat) (a b c : Int) (wr : World) : Prop := wr.heap[B]? = some (.cells #[.int .i64 a, .int .i64 b, .int .i64 c] 37 (0, 0))
theorem Bxs.kp {B O : Nat} {a b c : Int} (h : B ≠ O) : KpS O (Bxs B a b c) := fun wr w' hk hq => (hk B _ _ _ hq (by decide) h).trans hq
theorem Bxs.c0 {B : Nat} {a b c : Int} {wr : World} (h : Bxs B a b c wr) : wr.cell? ⟨B, 0, none⟩ = some (.int .i64 a) := by rw [cell_of_row _ _ _ _ 37 (0, 0) h]; rfl
theorem Bxs.c1 {B : Nat} {a b c : Int} {wr : World} (h : Bxs B a b c wr) : wr.cell? ⟨B, 1, none⟩ = some (.int .i64 b) := by rw [cell_of_row _ _ _ _ 37 (0, 0) h]; rfl
theorem Bxs.c2 {B : Nat} {a b c : Int} {wr : World} (h : Bxs B a b c wr) : wr.cell? ⟨B, 2, none⟩ = some (.int .i64 c) := by rw [cell_of_row _ _ _ _ 37 (0, 0) h]; rfl
theorem Bxs.new (wr : World) (a b c : Int) : Bxs wr.heap.size a b c (wr.alloc (.cells #[.int .i64 a, .int .i64 b, .int .i64 c] 37)) := heap_alloc_new wr _
def Sx (lo : Nat) (o : Option Nat) (c : Nat) (K : List En) (O : Nat) (wr : World) : Prop := dn.Sl wr lo o c K ∧ ∀ g, o = some g → g ≠ O
theorem Sx.kp {lo c O : Nat} {o : Option Nat} {K : List En} : KpS O (Sx lo o c K O) := fun wr w' hk ⟨hq, hn⟩ => by
 refine ⟨?_, hn⟩
 cases o with
 | none => exact hq
 | some g =>
  refine ⟨hq.1, hq.2.of_block ?_⟩
  obtain ⟨_, _, X, hX, _⟩ := hq.2
  exact hk g _ _ _ hX (by decide) (hn g rfl)
theorem Sx.get {lo c O : Nat} {o : Option Nat} {K : List En} {wr : World} (h : Sx lo o c K O wr) {j : Nat} {x : En} (hx : K[j]? = some x) : ∃ g, o = some g ∧ g ≠ O ∧ g < wr.heap.size ∧ wr.cell? ⟨g, j * 2, none⟩ = some (.string x.1) ∧ wr.cell? ⟨g, j * 2 + 1, none⟩ = some (.int .i64 x.2) := by
 obtain ⟨h1, h2⟩ := h
 cases o with
 | none => rw [h1.1] at hx; simp at hx
 | some g => exact ⟨g, rfl, h2 g rfl, h1.2.lt, (h1.2.at_ hx).1, (h1.2.at_ hx).2⟩
theorem run_append_none (w : World) {base n c : Nat} {v : Value} {xs : List Value} (ty : TypeId) (hown : w.ownsRow base 5 1 v n xs) : (Builtin.append_ #[80, 80] ty #[v, .slice none 0 c]).run Tryz.prog w = .ok v w := by
 obtain ⟨i0, hi, hz0, hz1, hz2⟩ := info_parts info5
 rcases hown.2 with ⟨rfl, rfl⟩ | ⟨g, cap, cur, rfl, _, _, hnc, _⟩
 ·simp [Builtin.append_, run_underlying Tryz.underlying80, sizeOf, typeInfo, hi, Builtin.lenOf, Builtin.firstCells]
 ·simp [Builtin.append_, run_underlying Tryz.underlying80, sizeOf, typeInfo, hi, Builtin.lenOf, Builtin.firstCells, hnc, storeCells]
theorem TS.run_src {w wr : World} {O n m c0 lo rn c : Nat} {L : List UInt8} {Q : World → Prop} {A0 A : Option Addr} {f : Nat → UInt8} (ty : TypeId) (h : TS w wr O n L Q) (hQ : KpS O Q) (hn : n ≤ 100000000) (hm : m = L.length) (hv : wr.ownsRow w.heap.size 5 1 (.slice A0 m c0) m (bytesV L)) (hr : bl.Row wr lo A rn c f) (hrn : rn ≤ 65536) :
  ∃ v' w1, (Builtin.append_ #[80, 80] ty #[.slice A0 m c0, .slice A rn c]).run Tryz.prog wr = .ok v' w1 ∧ w1.cell? ⟨O, 0, none⟩ = wr.cell? ⟨O, 0, none⟩ ∧ w1.frozen? ⟨O, 0, none⟩ = false ∧ (∃ A' c', v' = .slice A' (m + rn) c') ∧ TS w (w1.setCell ⟨O, 0, none⟩ v') O (n + 65536) (L ++ (List.range rn).map f) Q := by
 obtain ⟨i0, hi, hz0, hz1, hz2⟩ := info_parts info5
 have hle := h.le
 rcases rowU hr with ⟨rfl, rfl⟩ | ⟨g, rfl, hg⟩
 ·refine ⟨_, wr, run_append_none wr ty hv, ?_⟩
  exact h.app hQ hm hv (M := (List.range 0).map f) (p := 0) rfl (by omega) (xs := []) rfl (by simpa using hv) ⟨rfl, rfl, rfl, Nat.le_refl _, fun _ _ _ => rfl⟩
 ·obtain ⟨v', w', hrun, h2, h3, _⟩ := run_append_own (P := Tryz.prog) (w := wr) w.heap.size 80 ty 5 i0 _ 1 1 Tryz.underlying80 hi hz0 hz1 hz2 rfl (by decide) _ m (bytesV L) hv ⟨g, 0, none⟩ rn c (bytesV ((List.range rn).map f)) (by simp [bytesV]) hg (bytesV_one _) (by unfold maxLen; omega) (by omega) h.o.bel.size
  exact ⟨v', w', hrun, h.app hQ hm hv (M := (List.range rn).map f) (p := rn) (by simp) hrn rfl h2 h3⟩
theorem entB_le (K : List En) (j : Nat) : (entB (K.take j)).length ≤ (entB K).length := by
 have : entB K = entB (K.take j) ++ entB (K.drop j) := by rw [← entB_append, List.take_append_drop]
 rw [this, List.length_append]; omega
theorem own_conv {w : World} {base n c : Nat} {A : Option Addr} {L : List UInt8} (h : w.ownsRow base 5 1 (.slice A n c) n (bytesV L)) (hn : n = L.length) : (convert 80 9 (.slice A n c)).run Tryz.prog w = .ok (.string ⟨L.toArray⟩) w := by
 subst hn
 rcases h.2 with ⟨h0, h1⟩ | ⟨g, cap, cur, hv, _⟩
 ·injection h0 with a1 a2 a3
  subst a1
  have hL : L = [] := List.eq_nil_of_length_eq_zero h1
  subst hL
  exact Lib.run_convert_nil_bytes w 80 9 5 c Tryz.underlying80 Tryz.underlying5 Tryz.underlying9
 ·injection hv with a1 a2 a3
  subst a1
  refine run_convert_bytes_back (P := Tryz.prog) w 80 9 5 ⟨g, 0, none⟩ c L Tryz.underlying80 Tryz.underlying5 Tryz.underlying9 (fun j hj => ?_)
  refine h.cells (g := g) rfl j _ ?_
  unfold bytesV U8
  rw [List.getElem?_map, List.getElem?_eq_getElem hj]; rfl
abbrev Tru : World → Prop := fun _ => True
theorem Tru.kp {O : Nat} : KpS O Tru := fun _ _ _ h => h
theorem TS.start (w : World) : TS w ((w.alloc (.cells #[] 5)).alloc (.cells #[.slice (some ⟨w.heap.size, 0, none⟩) 0 0] 80)) (w.heap.size + 1) 0 [] Tru := by
 have hb : Below w.heap.size w ((w.alloc (.cells #[] 5)).alloc (.cells #[.slice (some ⟨w.heap.size, 0, none⟩) 0 0] 80)) := (dn.below_alloc w _).trans ((dn.below_alloc _ _).mono (by simp))
 have h1 := heap_alloc_new (w.alloc (.cells #[] 5)) (.cells #[.slice (some ⟨w.heap.size, 0, none⟩) 0 0] 80)
 rw [World.size_alloc] at h1
 have h0 : ((w.alloc (.cells #[] 5)).alloc (.cells #[.slice (some ⟨w.heap.size, 0, none⟩) 0 0] 80)).heap[w.heap.size]? = some (.cells #[] 5) := by rw [heap_alloc_old _ _ (by simp)]; exact heap_alloc_new w _
 refine ⟨⟨by omega, by simp, hb, Lib.frozen_of_heap h1 _, ⟨_, _, h1⟩, _, 0, by rw [cell_of_row _ _ _ _ 80 (0, 0) h1]; rfl, ?_⟩, Nat.le_refl _, trivial⟩
 refine ⟨rfl, .inr ⟨w.heap.size, 0, #[], rfl, Nat.le_refl _, h0, Nat.le_refl _, by decide, rfl, rfl⟩⟩
theorem toldS_eq (S : BS) : (⟨(upB S 200).toArray⟩ : ByteArray) = toldS S := rfl
attribute [local irreducible] toldS
theorem tell_any {w0 w : World} {P room T : Nat} {X : Nat → Prop} {S : BS} (h : BrX w0 w P X S room T) : Calls Tryz.prog 20 #[Pq P] w (fun e w' => e = .returned (.string (toldS S)) ∧ Below w.heap.size w w') := by
 have HBR := Lib.hid (fun wr (hb : Below w.heap.size w wr) => h.below hb)
 have hG := Lib.hid h.good
 have HU := Lib.hid (fun wr (hb : Below w.heap.size w wr) => x_used (h.below hb))
 have HS := Lib.hid (TS.start w)
 obtain ⟨i0, hi, hz0, hz1, hz2⟩ := info_parts info5
 clear h
 go_enter Tryz.func20, Tryz.ntmps20
 go_wp2_with fail
 refine (HU.out _ HS.out.o.bel).mono ?_
 rintro _ w1 ⟨rfl, rfl⟩
 have HN := Lib.hid (HS.out.num Tru.kp (by decide) (S.used : Int))
 clear HU HS
 go_wp2_with fail
 refine HN.out.mono ?_
 rintro _ w1 ⟨rfl, h1⟩
 have H1 := Lib.hid (h1.sub (m := 67000000) (Nat.le_trans (up_len hG.out 0) (by decide)) (L' := upB S 0) rfl id)
 clear h1 HN
 generalize w.heap.size + 1 = O at *
 go_wp2_with fail
 go_loopg [5] 200 (fun g s5 wr => ∃ k : Nat, g + k = 200 ∧ s5 = .int .i64 ((k : Int) + 1) ∧ Hid (TS w wr O 67000000 (upB S k) Tru))
 case atStart => exact ⟨0, by omega, rfl, H1⟩
 case round =>
  clear H1
  obtain ⟨k, hg, rfl, HT⟩ := hrel
  by_cases hk : k + 1 ≤ 200
  ·have HST := Lib.hid (x_stat (HBR.out wr HT.out.o.bel) ((k + 1 : Nat) : Int))
   rw [show ((k + 1 : Nat) : Int) = (k : Int) + 1 by omega] at HST
   unfold RetW statV at HST
   by_cases hI : S.isI ((k : Int) + 1) = true
   ·obtain ⟨a, b, c, hst⟩ : ∃ a b c, S.stat ((k : Int) + 1) = ((a, b, c), 0) := ⟨_, _, _, by unfold BS.stat; rw [if_pos hI]⟩
    rw [hst] at HST
    have HTG := Lib.hid (fun wr hb => x_target (HBR.out wr hb) ((k : Int) + 1))
    have HRD := Lib.hid (fun wr hb => x_read (HBR.out wr hb) ((k : Int) + 1) 0 65536)
    have HAL := Lib.hid (fun wr hb => x_all (HBR.out wr hb) ((k : Int) + 1))
    unfold ReadI at HRD
    dsimp only at HST
    have HEND := Lib.hid (show upB S (k + 1) = upB S k ++ num3 ((k : Int) + 1) ++ num3 a ++ num3 (b : Int) ++ num3 c ++ (S.targetOf ((k : Int) + 1)).1.data.toList ++ (List.range (readI S ((k : Int) + 1) 0 65536).2).map (fun j => (S.at ((k : Int) + 1)).body.dat ((0 : Int).toNat + j)) ++ entB (S.all ((k : Int) + 1)).1 by
     show _ ++ inoB S (k + 1) = _
     unfold inoB headB tarB contB contN
     rw [show ((k + 1 : Nat) : Int) = (k : Int) + 1 by omega, if_pos hI, hst]
     simp only [List.append_assoc])
    have HTL := Lib.hid (tar_len hG.out (k + 1))
    have HCL := Lib.hid (cont_len hG.out (k + 1))
    have HAF := Lib.hid (all_facts hG.out (k + 1))
    have HUP := Lib.hid (Nat.le_trans (up_len hG.out (k + 1)) (show 3 + (k + 1) * 330000 ≤ 67000000 by omega))
    unfold tarB at HTL
    unfold contN at HCL
    rw [show ((k + 1 : Nat) : Int) = (k : Int) + 1 by omega] at HTL HCL HAF
    generalize S.targetOf ((k : Int) + 1) = tg at *
    generalize readI S ((k : Int) + 1) 0 65536 = rd at *
    generalize S.all ((k : Int) + 1) = al at *
    clear hI hst
    go_wp2_with fail
    refine HST.out.mono ?_
    rintro _ w2 ⟨rfl, hb2⟩
    have H2 := Lib.hid (HT.out.below Tru.kp hb2)
    have HB := Lib.hid (Bxs.kp (a := a) (b := (b : Int)) (c := c) (show w2.heap.size ≠ O from by have := H2.out.o.lt; omega))
    have H3 := Lib.hid (show TS w (w2.alloc (.cells #[.int .i64 a, .int .i64 (b : Int), .int .i64 c] 37)) O 67000000 (upB S k) (Bxs w2.heap.size a b c) from ⟨H2.out.o.below (dn.below_alloc w2 _), H2.out.le, Bxs.new w2 a b c⟩)
    clear hb2 HT HST H2
    go_wp2_with fail
    refine (H3.out.num HB.out (by decide) _).mono ?_
    rintro _ w4 ⟨rfl, h4⟩
    have H4 := Lib.hid h4
    have q4 := h4.q.c0
    clear H3 h4
    generalize w2.heap.size = B at *
    go_wp2_with fail
    refine (H4.out.num HB.out (by decide) _).mono ?_
    rintro _ w5 ⟨rfl, h5⟩
    have H5 := Lib.hid h5
    have q5 := h5.q.c1
    clear H4 h5 q4
    go_wp2_with fail
    refine (H5.out.num HB.out (by decide) _).mono ?_
    rintro _ w6 ⟨rfl, h6⟩
    have H6 := Lib.hid h6
    have q6 := h6.q.c2
    clear H5 h6 q5
    go_wp2_with fail
    refine (H6.out.num HB.out (by decide) _).mono ?_
    rintro _ w7 ⟨rfl, h7⟩
    have H7 := Lib.hid (h7.sub h7.le rfl (Q' := Tru) (fun _ => trivial))
    have HT11 := Lib.hid (HTG.out w7 h7.o.bel)
    have H11 := H7
    clear H6 h7 q6 HTG HB H7
    go_wp2_with fail
    refine HT11.out.mono ?_
    rintro _ w12 ⟨rfl, rfl⟩
    clear HT11
    obtain ⟨m1, A1, c1, hm1, hn1, hc1, hf1, ho1, hs1⟩ := H11.out.row
    have HV1 := Lib.hid ho1
    have HAP1 := Lib.hid (fun v1 w13 hown hg => H11.out.app Tru.kp hm1 ho1 (M := tg.1.data.toList) (p := tg.1.size) (q := 400) (v' := v1) (w1 := w13) Array.length_toList (by have := HTL.out; rw [Array.length_toList] at this; exact this) (strCells_eq _) hown hg)
    have htl : tg.1.size ≤ 400 := by have := HTL.out; rw [Array.length_toList] at this; exact this
    clear ho1 hm1 H11 HTL hf1
    go_wp2_with (at_builtin; refine Lib.wpList_append_own_string _ rfl (.tmp 54) (.tmp 55) 80 9 rfl w.heap.size 5 i0 Tryz.underlying80 Tryz.underlying9 hi hz0 hz1 hz2 _ m1 _ rfl HV1.out tg.1 rfl (by unfold maxLen; omega) (by omega) hs1 ?_; intro v1 w13 hown1 hgrow1 _; obtain ⟨z1, z2, ⟨A2, c2, rfl⟩, z4⟩ := HAP1.out _ _ hown1 hgrow1; rw [hc1] at z1; have H13 := Lib.hid z4; have HR13 := Lib.hid (HRD.out _ z4.o.bel); clear z4 hown1 hgrow1 HAP1 HV1 hc1)
    clear htl hn1 hs1
    refine HR13.out.mono ?_
    rintro _ w14 ⟨A3, c3, rfl, hr14, hb14⟩
    have H14 := Lib.hid (H13.out.below Tru.kp hb14)
    obtain ⟨m2, A4, c4, hm2, hn2, hc2, hf2, ho2, hs2⟩ := H14.out.row
    obtain ⟨v15, w15, hrun, y1, y2, ⟨A5, c5, rfl⟩, y4⟩ := H14.out.run_src 80 Tru.kp (by decide) hm2 ho2 hr14 HCL.out
    have HRUN := Lib.hid hrun
    have H15 := Lib.hid y4
    have HA15 := Lib.hid (HAL.out _ y4.o.bel)
    rw [hc2] at y1
    clear hrun y4 hb14 hr14 H13 HR13 H14 ho2 hm2 hf2 hn2 hs2 z1 z2
    go_wp2_with (at_builtin; refine Lib.wpList_append_run _ rfl (.tmp 63) (.tmp 64) 80 80 rfl _ _ rfl rfl _ _ HRUN.out ?_)
    refine HA15.out.mono ?_
    rintro _ w16 ⟨o, c6, rfl, hl1, hl2, hsl, hb16⟩
    have hLe : _ := H15.out.o.lt
    obtain ⟨lo, hlo⟩ : ∃ lo, lo = (w15.setCell ⟨O, 0, none⟩ (.slice A5 (m2 + rd.2) c5)).heap.size := ⟨_, rfl⟩
    have H16 := Lib.hid (show TS w w16 O 67000000 _ (Sx lo o c6 al.1 O) from ⟨H15.out.o.below hb16, by
     have e := HUP.out
     rw [HEND.out, List.length_append] at e
     exact Nat.le_trans (Nat.le_add_right _ _) e, hlo ▸ hsl, fun g e0 => by
     subst e0
     have := hsl.1
     omega⟩)
    obtain ⟨L1, hL1⟩ : ∃ L1, L1 = upB S k ++ num3 ((k : Int) + 1) ++ num3 a ++ num3 (b : Int) ++ num3 c ++ tg.1.data.toList ++ (List.range rd.2).map (fun j => (S.at ((k : Int) + 1)).body.dat ((0 : Int).toNat + j)) := ⟨_, rfl⟩
    rw [← hL1] at H16 HEND
    obtain ⟨al1, al2⟩ := al
    dsimp only at H16 HEND hl1 HAF ⊢
    have HAD := Lib.hid (fun g (e0 : o = some g) => show dn.Ao o = some ⟨g, 0, none⟩ by rw [e0]; rfl)
    generalize dn.Ao o = Ad at *
    obtain ⟨nk, hnk⟩ : ∃ nk, nk = al1.length := ⟨_, rfl⟩
    rw [← hnk] at hl1 ⊢
    have hn4 : nk ≤ 4000 := by have := HAF.out.1; omega
    clear hLe hlo hsl hb16 H15 HA15 hL1 y1 y2 hl1 hl2 HRUN
    go_wp2_with fail
    obtain ⟨gq, hgq⟩ : ∃ gq, gq = gk := ⟨_, rfl⟩
    go_loopg [74] nk (fun g s74 wr => ∃ j : Nat, g + j = nk ∧ s74 = .int .i64 (j : Int) ∧ Hid (TS w wr O 67000000 (L1 ++ entB (al1.take j)) (Sx lo o c6 al1 O)))
    case atStart => exact ⟨0, by omega, rfl, Lib.hid (H16.out.sub (by simpa [entB] using H16.out.le) (by simp [entB]) id)⟩
    case round =>
     clear H16
     obtain ⟨j, hgj, rfl, HJ⟩ := hrel
     by_cases hj : j < nk
     ·obtain ⟨x, hx⟩ : ∃ x, al1[j]? = some x := ⟨_, List.getElem?_eq_getElem (show j < al1.length by omega)⟩
      obtain ⟨g0, ho, hgO, hgl, x1, x2⟩ := HJ.out.q.get hx
      obtain rfl := HAD.out g0 ho
      clear x2
      have hxs := nerr_len (HAF.out.2 x (List.mem_of_getElem? hx))
      have HJd := Lib.hid (HJ.out.below Sx.kp ((Below.refl _ wr).drew))
      obtain ⟨m3, A7, c7, hm3, hn3, hc3, hf3, ho3, hs3⟩ := HJd.out.row
      have HV3 := Lib.hid ho3
      have HAP3 := Lib.hid (fun v1 w13 hown hg => HJd.out.app Sx.kp hm3 ho3 (M := x.1.data.toList) (p := x.1.size) (q := 60) (v' := v1) (w1 := w13) Array.length_toList hxs.2 (strCells_eq _) hown hg)
      have x1d : wr.drew.cell? ⟨g0, j * 2, none⟩ = some (.string x.1) := x1
      have hji : (j : Int) < (nk : Int) := by omega
      have HET := Lib.hid (entB_take hx)
      have HX := Lib.hid hx
      have HLN := Lib.hid (show (L1 ++ entB (al1.take (j + 1))).length ≤ 67000000 by
       have e := HUP.out
       rw [HEND.out, List.length_append] at e
       have := entB_le al1 (j + 1)
       simp only [List.length_append]
       omega)
      clear ho3 hm3 hf3 x1 HJ hx
      go_wp2_with fail
      go_still_tail 6, (by kernel_rfl)
      change wpList _ _ _ _ _ wr.drew
      generalize wr.drew = w17 at *
      go_wp2_with (at_builtin; refine Lib.wpList_append_own_string _ rfl (.tmp 77) (.tmp 82) 80 9 rfl w.heap.size 5 i0 Tryz.underlying80 Tryz.underlying9 hi hz0 hz1 hz2 _ m3 _ rfl HV3.out x.1 rfl (by unfold maxLen; omega) (by omega) hs3 ?_; intro v1 w18 hown1 hgrow1 _; obtain ⟨z1, z2, ⟨A2, c2, rfl⟩, z4⟩ := HAP3.out _ _ hown1 hgrow1; rw [hc3] at z1; have H18 := Lib.hid z4; obtain ⟨g1, hg1, _, y3, _, y2⟩ := z4.q.get HX.out; obtain rfl : g1 = g0 := Option.some.inj (hg1.symm.trans ho); clear z4 hown1 hgrow1 HAP3 HV3 hc3 hg1)
      refine (H18.out.num Sx.kp (by decide) _).mono ?_
      rintro _ w19 ⟨rfl, h19⟩
      have H19 := Lib.hid (h19.sub (m := 67000000) (L' := L1 ++ entB (al1.take (j + 1))) HLN.out (by rw [HET.out]; simp only [List.append_assoc]) id)
      clear h19 H18 HLN HET HX
      go_wp2_with fail
      go_roundg (gk - 1)
      case measure => omega
      case rel => exact ⟨j + 1, by omega, by go_num, H19⟩
     ·obtain rfl : j = nk := by omega
      have HE := Lib.hid (show TS w wr O 67000000 (upB S (k + 1)) Tru from HJ.out.sub HUP.out (by rw [HEND.out, hnk, List.take_length]) (fun _ => trivial))
      clear HJ HAF HUP HEND HAD
      go_wp2_with fail
      go_roundg (gq - 1)
      case measure => omega
      case rel => exact ⟨k + 1, by omega, by go_num, HE⟩
   ·have HEND := Lib.hid (show upB S (k + 1) = upB S k by
     show _ ++ inoB S (k + 1) = _
     unfold inoB
     rw [show ((k + 1 : Nat) : Int) = (k : Int) + 1 by omega, if_neg hI, List.append_nil])
    have hst : S.stat ((k : Int) + 1) = ((0, 0, 0), 2) := by unfold BS.stat; rw [if_neg hI]
    rw [hst] at HST
    have HE := Lib.hid (fun w2 hb => show TS w w2 O 67000000 (upB S (k + 1)) Tru from HEND.out ▸ HT.out.below Tru.kp hb)
    clear hst hI HEND HT
    dsimp only at HST
    go_wp2_with fail
    refine HST.out.mono ?_
    rintro _ w2 ⟨rfl, hb2⟩
    have HE2 := Lib.hid ((HE.out w2 hb2).below Tru.kp (dn.below_alloc w2 (.cells #[.int .i64 0, .int .i64 0, .int .i64 0] 37)))
    clear hb2 HE HST
    go_wp2_with fail
    go_roundg (gk - 1)
    case measure => omega
    case rel => exact ⟨k + 1, by omega, by go_num, HE2⟩
  ·obtain ⟨m1, A1, c1, hm1, hn1, hc1, hf1, ho1, hs1⟩ := HT.out.row
   have HE := Lib.hid HT.out.o.bel
   have hcv := own_conv ho1 hm1
   rw [show upB S k = upB S 200 from by rw [show k = 200 by omega], toldS_eq] at hcv
   have hki : ¬ ((k : Int) + 1 ≤ 200) := by omega
   clear ho1 hm1 hn1 hf1 hs1 HT hk hg
   go_wp2_with fail
   go_ret
   exact ⟨rfl, HE.out⟩
end Go.Proofs.YtpmpbmjjlccbbaaGreat.cb
