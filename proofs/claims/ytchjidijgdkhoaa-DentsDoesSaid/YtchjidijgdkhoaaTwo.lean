/- Two directories beside each other; a set of names of the call's own. -/
import Derived.Test.YtchjidijgdkhoaaPlay
import Derived.Test.YtchjidijgdkhoaaSame
import Derived.Maps.Own
import Derived.Maps.OwnOps
import Derived.Maps.Views
namespace Go.Proofs.Ytchjidijgdkhoaa
open Go.RowKit Go.Shelf
open Go.Maps (Keyed IsMap isMap_empty atKey_put_same atKey_put_other string_keyed)
open Go.WideMaps (keyOf_string_mk)
set_option linter.unusedVariables false

/-- Block B is a set of at most n names: those of which f says yes. -/
def MapS (w : World) (B n : Nat) (f : ByteArray → Bool) : Prop :=
  ∃ D : DataW Unit, w.ownsMap Try.prog 9 (plainElem Try.prog 4) B n D ∧ IsMap D ∧ ∀ a : ByteArray, D.atKey (.string a.data.toList) (.lit (.bool false)) = .lit (.bool (f a))
theorem MapS.made (w : World) : MapS (w.alloc (.map #[] 0)) w.heap.size 0 (fun _ => false) := ⟨.map [], World.ownsMap_made _ _ _ _, isMap_empty, fun a => rfl⟩
theorem MapS.lt {w : World} {B n : Nat} {f : ByteArray → Bool} (h : MapS w B n f) : B < w.heap.size := by obtain ⟨D, h, _⟩ := h; exact h.lt
theorem MapS.of_block {w w' : World} {B n : Nat} {f : ByteArray → Bool} (h : MapS w B n f) (hb : w'.heap[B]? = w.heap[B]?) : MapS w' B n f := by
  obtain ⟨D, ⟨es, clock, h1, h2⟩, r⟩ := h
  exact ⟨D, ⟨es, clock, hb.trans h1, h2⟩, r⟩
theorem plainElem_bool_inv {v : Value} {x : Bool} {ps : List MemPlace} (h : plainElem (H := Unit) Try.prog 4 v = some (.lit (.bool x), ps)) : v = .bool x := by
  unfold plainElem at h
  rw [Try.underlying4] at h
  cases v <;> simp at h
  simp [h]
theorem MapS.look {w : World} {B n : Nat} {f : ByteArray → Bool} (h : MapS w B n f) (a : ByteArray) (ha : a.size ≤ maxLen) :
    (Instr.lookup 50 (.map (some B)) (.string a) false).run Try.prog w = .ok (.bool (f a)) w := by
  obtain ⟨D, h1, h2, h3⟩ := h
  obtain ⟨v, ps, hrun, hv⟩ := h1.lookup (string_keyed Try.underlying9) Try.underlying50 (z := .bool false) (by kernel_rfl) (plainElem_bool Try.underlying4 false) (keyOf_string_mk Try.underlying9 ha)
  rw [h3] at hv
  rw [hrun, plainElem_bool_inv hv]
theorem MapS.put {w : World} {B n : Nat} {f : ByteArray → Bool} (h : MapS w B n f) (hn : n ≤ 1000000) (a : ByteArray) (ha : a.size ≤ maxLen) :
    ∃ w', (Instr.mapUpdate 50 (.map (some B)) (.string a) (.bool true)).run Try.prog w = .ok () w' ∧ MapS w' B (n + 1) (fun x => decide (x = a) || f x) ∧ w.grownBy w' (some B) := by
  obtain ⟨D, h1, h2, h3⟩ := h
  obtain ⟨w', hrun, hown, hg⟩ := h1.update (string_keyed Try.underlying9) Try.underlying50 (by unfold maxLen; omega) (keyOf_string_mk Try.underlying9 ha) (plainElem_bool Try.underlying4 true)
  refine ⟨w', hrun, ⟨_, hown, h2.put _ _, fun x => ?_⟩, hg⟩
  by_cases e : x = a
  · subst e; rw [atKey_put_same h2 (show WideAt.IsKeyLit (.string x.data.toList) from trivial)]; simp
  · rw [atKey_put_other (fun h => e (by injection h with h; rw [← Lib.mk_data x, ← Lib.mk_data a, h])), h3]; simp [e]

/-- Two directories, apart. -/
def TwoX (w0 w : World) (D E : Nat) (L K : List En) : Prop :=
  ∃ o c p d, Du w D w0.heap.size o c L ∧ Du w E w0.heap.size p d K ∧ w0.heap.size ≤ D ∧ w0.heap.size ≤ E ∧ D ≠ E ∧ o ≠ some E ∧ p ≠ some D ∧ (∀ G, p = some G → o ≠ some G) ∧ Fine L ∧ Fine K ∧ Below w0.heap.size w0 w
theorem TwoX.symm {w0 w : World} {D E : Nat} {L K : List En} (h : TwoX w0 w D E L K) : TwoX w0 w E D K L := by
  obtain ⟨o, c, p, d, h1, h2, l1, l2, ne, s1, s2, s3, f1, f2, hb⟩ := h
  exact ⟨p, d, o, c, h2, h1, l2, l1, ne.symm, s2, s1, fun G e e2 => s3 G e2 e, f2, f1, hb⟩
theorem TwoX.bel {w0 w : World} {D E : Nat} {L K : List En} (h : TwoX w0 w D E L K) : Below w0.heap.size w0 w := by
  obtain ⟨o, c, p, d, h1, h2, l1, l2, ne, s1, s2, s3, f1, f2, hb⟩ := h; exact hb
theorem TwoX.below {w0 w w' : World} {D E : Nat} {L K : List En} (h : TwoX w0 w D E L K) (hb' : Below w.heap.size w w') : TwoX w0 w' D E L K := by
  obtain ⟨o, c, p, d, h1, h2, l1, l2, ne, s1, s2, s3, f1, f2, hb⟩ := h
  exact ⟨o, c, p, d, h1.below hb', h2.below hb', l1, l2, ne, s1, s2, s3, f1, f2, below_step hb hb'⟩
theorem TwoX.left {w0 w : World} {D E : Nat} {L K : List En} (h : TwoX w0 w D E L K) : DirX w0 w D No L := by
  obtain ⟨o, c, p, d, h1, h2, l1, l2, ne, s1, s2, s3, f1, f2, hb⟩ := h
  exact ⟨o, c, h1, l1, f1, hb, fun _ h => h.elim⟩
theorem two_new {w0 w1 w2 w3 : World} (hb1 : Below w0.heap.size w0 w1) (h1 : Du w2 w1.heap.size w0.heap.size none 0 []) (hb2 : Below w1.heap.size w1 w2) (h2 : Du w3 w2.heap.size w0.heap.size none 0 []) (hb3 : Below w2.heap.size w2 w3) : TwoX w0 w3 w1.heap.size w2.heap.size [] [] := by
  have := h1.lt
  have := hb1.size
  have := hb2.size
  exact ⟨none, 0, none, 0, h1.below hb3, h2, by omega, by omega, by omega, by simp, by simp, by simp, Fine.nil, Fine.nil, below_step (below_step hb1 hb2) hb3⟩
theorem two_set {w0 w : World} {D E : Nat} {L K : List En} (h : TwoX w0 w D E L K) (hN : L.length ≤ 900000) (s : ByteArray) (v : Int) (hm : s.size ≤ 9223372036854775807) :
    Calls Try.prog 10 #[Pq D, .string s, .int .i64 v] w (fun e w' => e = .returned (.int .i64 (serr s v)) ∧ TwoX w0 w' D E (lsetE s v L) K) := by
  obtain ⟨o, c, p, d, h1, h2, l1, l2, ne, s1, s2, s3, f1, f2, hb⟩ := h
  refine (set_any D w0.heap.size c o L s v w hm h1 hb.size f1.sorted hN).mono ?_
  rintro e w' ⟨he, o', c', hd, ho, hf⟩
  have a1 := h1.lt
  have a2 := h2.lt
  have hbE : w'.heap[E]? = w.heap[E]? := hf.block E a2 ne.symm s1
  have hbG : ∀ G, p = some G → w'.heap[G]? = w.heap[G]? := fun G e => hf.block G (h2.glt G e).1 (fun e2 => by subst e2; exact s2 e) (s3 G e)
  refine ⟨he, o', c', p, d, hd, h2.of_blocks hbE hbG, l1, l2, ne, fun e => ?_, s2, fun G e e2 => ?_, f1.set s v, f2, ?_⟩
  · rcases ho E e with e | e
    · exact s1 e
    · omega
  · have g1 := (h2.glt G e).1
    rcases ho G e2 with e2 | e2
    · exact s3 G e e2
    · omega
  · exact hb.trans ⟨hf.os, hf.tape, hf.output, hf.size, fun k hk => hf.block k (by have := hb.size; omega) (by omega) (fun e => by have := (h1.glt k e).2.1; omega)⟩
theorem below_grown_far {w w1 w2 : World} {B : Nat} (h : Below w.heap.size w w1) (hg : w1.grownBy w2 (some B)) (hB : w.heap.size ≤ B) : Below w.heap.size w w2 :=
  h.trans ⟨hg.os, hg.tape, hg.output, hg.size, fun k hk => hg.block k (by have := h.size; omega) (fun e => by injection e with e; omega)⟩

theorem Reads.more {w : World} {B B' : Nat} {A : Option Addr} {L : List En} (h : Reads w B A L) (hB : B ≤ B') : Reads w B' A L := fun i x hx => by
  obtain ⟨G, e, hG, r⟩ := h i x hx
  exact ⟨G, e, by omega, r⟩
theorem Reads.step {w w' : World} {A : Option Addr} {L : List En} (h : Reads w w.heap.size A L) (hb : Below w.heap.size w w') : Reads w' w'.heap.size A L := (h.below hb).more hb.size
/-- The entries are those of the places in S. -/
def InS (F : Nat → ByteArray) (S : Nat → Prop) (L : List En) : Prop := ∀ e, e ∈ L ↔ ∃ j, S j ∧ e = (F j, (j : Int) + 1) ∧ serr (F j) ((j : Int) + 1) = 0
theorem InS.nil (F : Nat → ByteArray) : InS F (fun _ => False) [] := fun e => ⟨fun h => by simp at h, fun ⟨_, h, _⟩ => h.elim⟩
theorem InS.set {F : Nat → ByteArray} {S : Nat → Prop} {L : List En} {k : Nat} (h : InS F S L) (hs : Sorted L) (hd : ∀ j, S j → F j ≠ F k) : InS F (fun j => S j ∨ j = k) (lsetE (F k) ((k : Int) + 1) L) := by
  intro e
  unfold lsetE
  split
  · rename_i h0
    rw [lset_mem hs, h e]
    constructor
    · rintro (rfl | ⟨⟨j, h1, h2⟩, _⟩)
      · exact ⟨k, .inr rfl, rfl, h0⟩
      · exact ⟨j, .inl h1, h2⟩
    · rintro ⟨j, h1 | rfl, h2, h3⟩
      · exact .inr ⟨⟨j, h1, h2, h3⟩, by rw [h2]; exact hd j h1⟩
      · exact .inl h2
  · rename_i h0
    rw [h e]
    constructor
    · rintro ⟨j, h1, h2⟩; exact ⟨j, .inl h1, h2⟩
    · rintro ⟨j, h1 | rfl, h2, h3⟩
      · exact ⟨j, h1, h2, h3⟩
      · exact absurd h3 h0
theorem InS.congr {F : Nat → ByteArray} {S T : Nat → Prop} {L : List En} (h : InS F S L) (e : ∀ j, S j ↔ T j) : InS F T L := fun x => by
  rw [h x]
  constructor
  · rintro ⟨j, h1, h2⟩; exact ⟨j, (e j).1 h1, h2⟩
  · rintro ⟨j, h1, h2⟩; exact ⟨j, (e j).2 h1, h2⟩
theorem InS.one {F : Nat → ByteArray} {S : Nat → Prop} {L K : List En} (h1 : InS F S L) (h2 : InS F S K) (a : Sorted L) (b : Sorted K) : L = K := sorted_ext a b fun e => (h1 e).trans (h2 e).symm
theorem TwoX.sorted {w0 w : World} {D E : Nat} {L K : List En} (h : TwoX w0 w D E L K) : Sorted L := h.left.fine.sorted
end Go.Proofs.Ytchjidijgdkhoaa
