/- Words for memory: bytes and calls in rows. -/
import Derived.Test.YtoomdgjppfmdlaaCs
import Derived.Test.YtoomdgjppfmdlaaRows
import Derived.WalkKit
import Derived.WalkSpells
import Derived.WalkLawsBesides
import Derived.Below
import Derived.Lib.Hide
import Derived.Deep.LoopGhost
import Derived.Deep.DeepMust
import Derived.Deep.DeepFit
import Derived.Deep.QuietTactic
import Derived.BigQuiet
import Derived.Deep.MidRow
import Derived.Deep.AppendLies
import Derived.Laws.ResultCell
import Derived.Laws.AppendOwn
import Derived.Laws.OwnMore
import Derived.Maps.AppendAt
import Derived.Lib.AppendZerosOnto
import Derived.Laws.AppendOwnNone
import Derived.Laws.Cover3
import Derived.Lib.AppendStr
import Derived.Lib.BufferRead
import Derived.Laws.IdiomStrings
namespace Go.Proofs.Ytoomdgjppfmdlaa
open Go.RowKit
set_option linter.unusedVariables false
set_option linter.unusedSimpArgs false

/-- The string value of a list of bytes. -/
abbrev Sv (x : Bs) : Value := .string ⟨x.toArray⟩
theorem Sv_of (s : ByteArray) : Sv s.data.toList = .string s := by simp [Sv]
theorem addr_block (a : Addr) (n : Nat) : (a.add n).block = a.block := by unfold Addr.add; split <;> rfl
theorem below_alloc (w : World) (o : Obj) : Below w.heap.size w (w.alloc o) := (Below.refl _ _).alloc (Nat.le_refl _) _
theorem below_step {w0 w w' : World} (h : Below w0.heap.size w0 w) (hb : Below w.heap.size w w') : Below w0.heap.size w0 w' := h.trans (hb.mono h.size)
theorem below_drewN {B : Nat} {a w : World} (h : Below B a w) (n : Nat) : Below B a (w.drewN n) := ⟨h.os, h.tape, h.output, h.size, h.block⟩
theorem cell_row {w : World} {B j : Nat} {vs : Array Value} {t : TypeId} {m : Nat × Nat} (h : w.heap[B]? = some (.cells vs t m)) : w.cell? ⟨B, j, none⟩ = vs[j]? := by simp [World.cell?, h]
theorem own_base {w : World} {B B' : Nat} {e : TypeId} {size : Nat} {v : Value} {n : Nat} {xs : List Value} (h : w.ownsRow B e size v n xs) (hB : B' ≤ B) : w.ownsRow B' e size v n xs := by
  refine ⟨h.1, ?_⟩
  rcases h.2 with h2 | ⟨g, cap, cur, hv, hb, r⟩
  · exact .inl h2
  · exact .inr ⟨g, cap, cur, hv, by omega, r⟩

/-- A call's cells, and its value. -/
def CL (c : C) : List Value := [.int .i64 c.op, .int .i64 c.fd, .int .i64 c.fl, .int .i64 c.n, .int .i64 c.off, Sv c.a, Sv c.b]
abbrev CV (c : C) : Value := .agg #[.int .i64 c.op, .int .i64 c.fd, .int .i64 c.fl, .int .i64 c.n, .int .i64 c.off, Sv c.a, Sv c.b]
theorem CL_len (c : C) : (CL c).length = 7 := rfl

/-- Bytes that read as a list, below block B. -/
def Byt (w : World) (B : Nat) (A : Option Addr) (l : Bs) : Prop := ∀ i x, l[i]? = some x → ∃ G off, A = some ⟨G, off, none⟩ ∧ G < B ∧ w.cell? ⟨G, off + i, none⟩ = some (.int .u8 x.toNat)
/-- Calls that read as a list, below block B. -/
def Cls (w : World) (B : Nat) (A : Option Addr) (L : List C) : Prop := ∀ i c, L[i]? = some c → ∃ G off, A = some ⟨G, off, none⟩ ∧ G < B ∧ ∀ j v, (CL c)[j]? = some v → w.cell? ⟨G, off + i * 7 + j, none⟩ = some v
section
variable {w w' : World} {B B' : Nat} {A : Option Addr} {l : Bs} {L : List C}
theorem Byt.nil (w : World) (B : Nat) (A : Option Addr) : Byt w B A [] := fun i x h => by simp at h
theorem Byt.keep (h : Byt w B A l) (hk : ∀ b, b < B → w'.heap[b]? = w.heap[b]?) : Byt w' B A l := fun i x hx => by
  obtain ⟨G, off, e, hG, hc⟩ := h i x hx
  exact ⟨G, off, e, hG, (World.cell?_of_block (a := ⟨G, off + i, none⟩) (hk G hG)).trans hc⟩
theorem Byt.below (h : Byt w B A l) (hb : Below B w w') : Byt w' B A l := h.keep fun b hB => hb.block b hB
theorem Byt.more (h : Byt w B A l) (hB : B ≤ B') : Byt w B' A l := fun i x hx => by
  obtain ⟨G, off, e, hG, hc⟩ := h i x hx
  exact ⟨G, off, e, by omega, hc⟩
theorem Byt.le (h : Byt w B A l) (hn : 0 < l.length) : ∃ G off, A = some ⟨G, off, none⟩ ∧ G < B := by
  obtain ⟨G, off, e, hG, _⟩ := h 0 _ (List.getElem?_eq_getElem hn)
  exact ⟨G, off, e, hG⟩
theorem Cls.nil (w : World) (B : Nat) (A : Option Addr) : Cls w B A [] := fun i x h => by simp at h
theorem Cls.keep (h : Cls w B A L) (hk : ∀ b, b < B → w'.heap[b]? = w.heap[b]?) : Cls w' B A L := fun i x hx => by
  obtain ⟨G, off, e, hG, hc⟩ := h i x hx
  exact ⟨G, off, e, hG, fun j v hv => (World.cell?_of_block (a := ⟨G, off + i * 7 + j, none⟩) (hk G hG)).trans (hc j v hv)⟩
theorem Cls.below (h : Cls w B A L) (hb : Below B w w') : Cls w' B A L := h.keep fun b hB => hb.block b hB
theorem Cls.more (h : Cls w B A L) (hB : B ≤ B') : Cls w B' A L := fun i x hx => by
  obtain ⟨G, off, e, hG, hc⟩ := h i x hx
  exact ⟨G, off, e, by omega, hc⟩
theorem Cls.at_ (h : Cls w B A L) {i : Nat} (hi : i < L.length) : ∃ G off, A = some ⟨G, off, none⟩ ∧ G < B ∧ w.cell? ⟨G, off + i * 7, none⟩ = some (.int .i64 L[i].op) ∧ w.cell? ⟨G, off + i * 7 + 1, none⟩ = some (.int .i64 L[i].fd) ∧
    w.cell? ⟨G, off + i * 7 + 2, none⟩ = some (.int .i64 L[i].fl) ∧ w.cell? ⟨G, off + i * 7 + 3, none⟩ = some (.int .i64 L[i].n) ∧ w.cell? ⟨G, off + i * 7 + 4, none⟩ = some (.int .i64 L[i].off) ∧
    w.cell? ⟨G, off + i * 7 + 5, none⟩ = some (Sv L[i].a) ∧ w.cell? ⟨G, off + i * 7 + 6, none⟩ = some (Sv L[i].b) := by
  obtain ⟨G, off, e, hG, hc⟩ := h i _ (List.getElem?_eq_getElem hi)
  exact ⟨G, off, e, hG, hc 0 _ rfl, hc 1 _ rfl, hc 2 _ rfl, hc 3 _ rfl, hc 4 _ rfl, hc 5 _ rfl, hc 6 _ rfl⟩
end

def bcells (l : Bs) : List Value := l.map fun b => Value.int .u8 b.toNat
theorem bcells_len (l : Bs) : (bcells l).length = l.length := List.length_map _
theorem bcells_app (a b : Bs) : bcells (a ++ b) = bcells a ++ bcells b := List.map_append
theorem bcells_one (l : Bs) : ∀ u ∈ bcells l, u.oneCell' = true := fun u hu => by simp [bcells] at hu; obtain ⟨_, _, rfl⟩ := hu; rfl
def ccells (L : List C) : List Value := (L.map CL).flatten
theorem ccells_len (L : List C) : (ccells L).length = L.length * 7 := by
  induction L with
  | nil => rfl
  | cons c L ih =>
    rw [show ccells (c :: L) = CL c ++ ccells L from rfl, List.length_append, ih, CL_len, List.length_cons]; omega
theorem ccells_app (a b : List C) : ccells (a ++ b) = ccells a ++ ccells b := by simp [ccells]
theorem ccells_snoc (L : List C) (c : C) : ccells (L ++ [c]) = ccells L ++ CL c := by rw [ccells_app]; simp [ccells]
theorem ccells_get (L : List C) (i : Nat) (c : C) (h : L[i]? = some c) (j : Nat) (v : Value) (hv : (CL c)[j]? = some v) : (ccells L)[i * 7 + j]? = some v := by
  induction L generalizing i with
  | nil => simp at h
  | cons d L ih =>
    rw [show ccells (d :: L) = CL d ++ ccells L from rfl]
    cases i with
    | zero =>
      simp at h; subst h
      have hj := (List.getElem?_eq_some_iff.1 hv).1
      rw [List.getElem?_append_left (by omega), Nat.zero_mul, Nat.zero_add]; exact hv
    | succ i =>
      rw [List.getElem?_cons_succ] at h
      rw [List.getElem?_append_right (by rw [CL_len]; omega), CL_len, show (i + 1) * 7 + j - 7 = i * 7 + j from by omega]
      exact ih i h
theorem ccells_one (L : List C) : ∀ u ∈ ccells L, u.oneCell' = true := by
  intro u hu
  simp only [ccells, List.mem_flatten, List.mem_map] at hu
  obtain ⟨x, ⟨c, _, rfl⟩, hu⟩ := hu
  simp only [CL, List.mem_cons, List.not_mem_nil, or_false] at hu
  rcases hu with rfl | rfl | rfl | rfl | rfl | rfl | rfl <;> rfl

/-- Bytes in a row of the call's own, from block B on. -/
def Bo (w : World) (B : Nat) (A : Option Addr) (n c : Nat) (l : Bs) : Prop := w.ownsRow B 5 1 (.slice A n c) n (bcells l)
/-- Calls in a row of the call's own. -/
def Co (w : World) (B : Nat) (A : Option Addr) (n c : Nat) (L : List C) : Prop := w.ownsRow B 32 7 (.slice A n c) n (ccells L)
section
variable {w w' : World} {B B' n c : Nat} {A : Option Addr} {l : Bs} {L : List C}
theorem Bo.nil (w : World) (B : Nat) : Bo w B none 0 0 [] := World.ownsRow_nil _ _ _ _
theorem Co.nil (w : World) (B : Nat) : Co w B none 0 0 [] := World.ownsRow_nil _ _ _ _
theorem Bo.len (h : Bo w B A n c l) : n = l.length := by have := h.1; rw [bcells_len] at this; omega
theorem Co.len (h : Co w B A n c L) : n = L.length := by have := h.1; rw [ccells_len] at this; omega
theorem Bo.byt (h : Bo w B A n c l) : Byt w w.heap.size A l := by
  intro i x hx
  have hi := (List.getElem?_eq_some_iff.1 hx).1
  have hl := h.len
  rcases h.2 with ⟨e, h0⟩ | ⟨g, cap, cur, hv, hb, hg, _⟩
  · omega
  · injection hv with hA
    subst hA
    refine ⟨g, 0, rfl, (Array.getElem?_eq_some_iff.1 hg).1, ?_⟩
    have := World.ownsRow.cells h (g := g) rfl i (.int .u8 x.toNat) (by unfold bcells; rw [List.getElem?_map, hx]; rfl)
    rw [Go.WideShapes.add_plain] at this
    exact this
theorem Co.cls (h : Co w B A n c L) : Cls w w.heap.size A L := by
  intro i x hx
  have hi := (List.getElem?_eq_some_iff.1 hx).1
  have hl := h.len
  rcases h.2 with ⟨e, h0⟩ | ⟨g, cap, cur, hv, hb, hg, _⟩
  · omega
  · injection hv with hA
    subst hA
    refine ⟨g, 0, rfl, (Array.getElem?_eq_some_iff.1 hg).1, fun j v hv => ?_⟩
    have := World.ownsRow.cells h (g := g) rfl (i * 7 + j) v (ccells_get L i x hx j v hv)
    rw [Go.WideShapes.add_plain] at this
    rw [Nat.add_assoc]; exact this
theorem Bo.keep (h : Bo w B A n c l) (hb : Below w.heap.size w w') : Bo w' B A n c l := by
  unfold Bo at h ⊢
  exact h.kept (row := none) ⟨hb.os, hb.tape, hb.output, hb.size, fun k hk _ => hb.block k hk⟩ (by cases hv : (Value.slice A n c).ownBlock <;> simp)
theorem Co.keep (h : Co w B A n c L) (hb : Below w.heap.size w w') : Co w' B A n c L := by
  unfold Co at h ⊢
  exact h.kept (row := none) ⟨hb.os, hb.tape, hb.output, hb.size, fun k hk _ => hb.block k hk⟩ (by cases hv : (Value.slice A n c).ownBlock <;> simp)
theorem Bo.base (h : Bo w B A n c l) (hB : B' ≤ B) : Bo w B' A n c l := own_base h hB
theorem Co.base (h : Co w B A n c L) (hB : B' ≤ B) : Co w B' A n c L := own_base h hB
theorem own_slice {base e size n c : Nat} {A : Option Addr} {xs : List Value} (h : w.ownsRow base e size (.slice A n c) n xs) : ∀ k, (Value.slice A n c).ownBlock = some k → base ≤ k := by
  intro k hk
  rcases h.2 with ⟨e, h0⟩ | ⟨g, cap, cur, hv, hb, _⟩
  · rw [e] at hk; simp [Value.ownBlock] at hk
  · rw [hv] at hk; simp [Value.ownBlock] at hk; omega
theorem own_form {base e size m : Nat} {v : Value} {xs : List Value} (h : w.ownsRow base e size v m xs) : ∃ A c, v = .slice A m c := by
  rcases h.2 with ⟨e, h0⟩ | ⟨g, cap, cur, hv, _⟩
  · exact ⟨none, 0, by rw [e, h0]⟩
  · exact ⟨_, cap, hv⟩
/-- An own row as text. -/
theorem bo_string (h : Bo w B A n c l) : (convert 22 9 (.slice A n c)).run Try.prog w = .ok (Sv l) w := by
  have hl := h.len
  rcases h.2 with ⟨e, h0⟩ | ⟨g, cap, cur, hv, _, hg, _, _, _, htk⟩
  · have : l = [] := List.eq_nil_of_length_eq_zero (by omega)
    subst this
    subst h0
    injection e with e1 _ e3
    subst e1; subst e3
    exact Lib.run_convert_nil_bytes w 22 9 5 0 Try.underlying22 Try.underlying5 Try.underlying9
  · injection hv with e1 _ e3
    subst e1; subst e3
    rw [hl]
    refine run_convert_bytes_back w 22 9 5 ⟨g, 0, none⟩ _ l Try.underlying22 Try.underlying5 Try.underlying9 ?_
    refine Lib.bytes_of_row hg ?_
    rw [Nat.mul_one, hl] at htk
    exact htk
end
theorem info9 : (Try.prog.info? 9).map (fun i => (i.zero, i.size, i.bytes)) = some (some (.string ByteArray.empty), 1, 16) := by kernel_rfl
theorem info5 : (Try.prog.info? 5).map (fun i => (i.zero, i.size, i.bytes)) = some (some (.int .u8 0), 1, 1) := by kernel_rfl
theorem info32 : (Try.prog.info? 32).map (fun i => (i.zero, i.size, i.bytes)) = some (some (.agg #[.int .i64 0, .int .i64 0, .int .i64 0, .int .i64 0, .int .i64 0, .string ByteArray.empty, .string ByteArray.empty]), 7, 72) := by kernel_rfl
/-- What a call hands back that hands back a bool. -/
def RetB (w : World) (b : Bool) (e : Ending) (w' : World) : Prop := e = .returned (.bool b) ∧ Below w.heap.size w w'
theorem run_append_nil {P : Program} (w : World) (base : Nat) (t ty e : TypeId) (i : TypeInfo) (size : Nat) (ht : P.underlying t = some (.slice e)) (hi : P.info? e = some i)
    (v : Value) (n : Nat) (xs : List Value) (hown : w.ownsRow base e size v n xs) (c : Nat) : (Builtin.append_ #[t, t] ty #[v, .slice none 0 c]).run P w = .ok v w := by
  rcases hown.2 with ⟨rfl, rfl⟩ | ⟨g, cap, cur, rfl, _, _, hnc, _⟩
  · simp [Builtin.append_, run_underlying ht, sizeOf, typeInfo, hi, Builtin.lenOf, Builtin.firstCells]
  · simp [Builtin.append_, run_underlying ht, sizeOf, typeInfo, hi, Builtin.lenOf, Builtin.firstCells, hnc, storeCells]
section
variable {w : World} {B B2 n m c c2 : Nat} {A A2 : Option Addr} {l y : Bs} {L Y : List C}
/-- Bytes appended to bytes of the call's own. -/
theorem run_app (ty : TypeId) (hown : Bo w B A n c l) (hm : m = y.length) (hr : Byt w B2 A2 y) (hlen : n + m ≤ 10000000) (hB : B ≤ w.heap.size) :
    ∃ A' c' w', (Builtin.append_ #[22, 22] ty #[.slice A n c, .slice A2 m c2]).run Try.prog w = .ok (.slice A' (n + m) c') w' ∧ Bo w' B A' (n + m) c' (l ++ y) ∧ Below B w w' := by
  obtain ⟨i0, hi, hz0, hz1, hz2⟩ := info_parts info5
  have hge := own_slice hown
  cases A2 with
  | none =>
    have hy : y = [] := by
      cases y with
      | nil => rfl
      | cons x y => obtain ⟨G, off, e, _⟩ := hr 0 x rfl; cases e
    subst hy
    subst hm
    exact ⟨A, c, w, run_append_nil w B 22 ty 5 i0 1 Try.underlying22 hi _ _ _ hown c2, by simpa using hown, Below.refl _ _⟩
  | some ad =>
    obtain ⟨v', w', h1, h2, h3, _, _⟩ := run_append_own_at w B 22 ty 5 i0 _ 1 1 Try.underlying22 hi hz0 hz1 hz2 rfl (by decide) _ n (bcells l) hown ad m c2 (bcells y) (by rw [bcells_len]; omega) (fun j u hu => by
      unfold bcells at hu
      rw [List.getElem?_map, Option.map_eq_some_iff] at hu
      obtain ⟨x, hx, rfl⟩ := hu
      obtain ⟨G, off, e, _, hc⟩ := hr j x hx
      injection e with e
      subst e
      rw [Go.WideShapes.add_plain]
      exact hc) (bcells_one y) (by unfold maxLen; omega) (by omega) hB
    obtain ⟨A', c', rfl⟩ := own_form h2
    exact ⟨A', c', w', h1, by unfold Bo; rw [bcells_app]; exact h2, (Below.refl _ _).grown h3 hB hge⟩
theorem run_appc (ty : TypeId) (hown : Co w B A n c L) (hm : m = Y.length) (hr : Cls w B2 A2 Y) (hlen : n + m ≤ 10000000) (hB : B ≤ w.heap.size) :
    ∃ A' c' w', (Builtin.append_ #[24, 24] ty #[.slice A n c, .slice A2 m c2]).run Try.prog w = .ok (.slice A' (n + m) c') w' ∧ Co w' B A' (n + m) c' (L ++ Y) ∧ Below B w w' := by
  obtain ⟨i0, hi, hz0, hz1, hz2⟩ := info_parts info32
  have hge := own_slice hown
  cases A2 with
  | none =>
    have hy : Y = [] := by
      cases Y with
      | nil => rfl
      | cons x y => obtain ⟨G, off, e, _⟩ := hr 0 x rfl; cases e
    subst hy
    subst hm
    exact ⟨A, c, w, run_append_nil w B 24 ty 32 i0 7 Try.underlying24 hi _ _ _ hown c2, by simpa using hown, Below.refl _ _⟩
  | some ad =>
    obtain ⟨v', w', h1, h2, h3, _, _⟩ := run_append_own_at w B 24 ty 32 i0 _ 7 72 Try.underlying24 hi hz0 hz1 hz2 rfl (by decide) _ n (ccells L) hown ad m c2 (ccells Y) (by rw [ccells_len]; omega) (fun j u hu => by
      have hj := (List.getElem?_eq_some_iff.1 hu).1
      rw [ccells_len] at hj
      have hk : j / 7 < Y.length := by omega
      obtain ⟨G, off, e, _, hc⟩ := hr (j / 7) _ (List.getElem?_eq_getElem hk)
      injection e with e
      subst e
      rw [Go.WideShapes.add_plain]
      have hv : (CL Y[j / 7])[j % 7]? = some ((CL Y[j / 7])[j % 7]'(by rw [CL_len]; omega)) := List.getElem?_eq_getElem _
      have h1 := ccells_get Y (j / 7) _ (List.getElem?_eq_getElem hk) (j % 7) _ hv
      rw [show j / 7 * 7 + j % 7 = j from by omega, hu] at h1
      have h2 := hc (j % 7) _ hv
      rw [show off + j / 7 * 7 + j % 7 = off + j from by omega, ← h1] at h2
      exact h2) (ccells_one Y) (by unfold maxLen; omega) (by omega) hB
    obtain ⟨A', c', rfl⟩ := own_form h2
    exact ⟨A', c', w', h1, by unfold Co; rw [ccells_app]; exact h2, (Below.refl _ _).grown h3 hB hge⟩
theorem run_apps (ty : TypeId) (hown : Bo w B A n c l) (y : Bs) (hlen : n + y.length ≤ 10000000) (hB : B ≤ w.heap.size) :
    ∃ A' c' w', (Builtin.append_ #[22, 9] ty #[.slice A n c, Sv y]).run Try.prog w = .ok (.slice A' (n + y.length) c') w' ∧ Bo w' B A' (n + y.length) c' (l ++ y) ∧ Below B w w' := by
  obtain ⟨i0, hi, hz0, hz1, hz2⟩ := info_parts info5
  have hge := own_slice hown
  have hs : (⟨y.toArray⟩ : ByteArray).size = y.length := by simp [ByteArray.size]
  obtain ⟨v', w', h1, h2, h3, _⟩ := Lib.run_append_own_string (P := Try.prog) w B 22 9 ty 5 i0 Try.underlying22 Try.underlying9 hi hz0 hz1 hz2 _ n (bcells l) hown ⟨y.toArray⟩ (by unfold maxLen; omega) (by omega) hB
  rw [hs] at h2
  obtain ⟨A', c', rfl⟩ := own_form h2
  refine ⟨A', c', w', h1, ?_, (Below.refl _ _).grown h3 hB hge⟩
  unfold Bo
  rw [bcells_app]
  have e : Lib.strCells ⟨y.toArray⟩ = bcells y := by simp [Lib.strCells, bcells]
  rw [← e]
  exact h2
end
section
variable {ops : Array Oper} {rest : List Oper} {o : Oper} {a : Act} {Q : Exit → Act → World → Prop}
theorem wpList_app (w : World) (hgd : o.guard = none) (s x : Operand) (ho : o.op = .call { callee := .builtin .append, args := #[s, x], argTypes := #[22, 22] })
    (B B2 n m c c2 : Nat) (A A2 : Option Addr) (l y : Bs) (hs : a.eval s = .slice A n c) (hx : a.eval x = .slice A2 m c2) (hown : Bo w B A n c l) (hm : m = y.length) (hr : Byt w B2 A2 y) (hlen : n + m ≤ 10000000) (hB : B ≤ w.heap.size)
    (h : ∀ A' c' w', Bo w' B A' (n + m) c' (l ++ y) → Below B w w' → wpList Try.prog ops Q rest (a.put o.dst (.slice A' (n + m) c')) w') : wpList Try.prog ops Q (o :: rest) a w := by
  obtain ⟨A', c', w', h1, h2, h3⟩ := run_app (c2 := c2) o.type hown hm hr hlen hB
  exact Lib.wpList_append_run w hgd s x 22 22 ho _ _ hs hx _ _ h1 (h A' c' w' h2 h3)
theorem wpList_apps (w : World) (hgd : o.guard = none) (s x : Operand) (ho : o.op = .call { callee := .builtin .append, args := #[s, x], argTypes := #[22, 9] })
    (B n c : Nat) (A : Option Addr) (l y : Bs) (hs : a.eval s = .slice A n c) (hx : a.eval x = Sv y) (hown : Bo w B A n c l) (hlen : n + y.length ≤ 10000000) (hB : B ≤ w.heap.size)
    (h : ∀ A' c' w', Bo w' B A' (n + y.length) c' (l ++ y) → Below B w w' → wpList Try.prog ops Q rest (a.put o.dst (.slice A' (n + y.length) c')) w') : wpList Try.prog ops Q (o :: rest) a w := by
  obtain ⟨A', c', w', h1, h2, h3⟩ := run_apps o.type hown y hlen hB
  exact Lib.wpList_append_run w hgd s x 22 9 ho _ _ hs hx _ _ h1 (h A' c' w' h2 h3)
theorem wpList_appc (w : World) (hgd : o.guard = none) (s x : Operand) (ho : o.op = .call { callee := .builtin .append, args := #[s, x], argTypes := #[24, 24] })
    (B B2 n m c c2 : Nat) (A A2 : Option Addr) (L Y : List C) (hs : a.eval s = .slice A n c) (hx : a.eval x = .slice A2 m c2) (hown : Co w B A n c L) (hm : m = Y.length) (hr : Cls w B2 A2 Y) (hlen : n + m ≤ 10000000) (hB : B ≤ w.heap.size)
    (h : ∀ A' c' w', Co w' B A' (n + m) c' (L ++ Y) → Below B w w' → wpList Try.prog ops Q rest (a.put o.dst (.slice A' (n + m) c')) w') : wpList Try.prog ops Q (o :: rest) a w := by
  obtain ⟨A', c', w', h1, h2, h3⟩ := run_appc (c2 := c2) o.type hown hm hr hlen hB
  exact Lib.wpList_append_run w hgd s x 24 24 ho _ _ hs hx _ _ h1 (h A' c' w' h2 h3)
end
end Go.Proofs.Ytoomdgjppfmdlaa
