/- Contracts and mathematics, part 0. -/
import Derived.Test.YtgoddboicjfkcaaGreatProg
import Derived.Lib.Strings
import Derived.WalkSpells
import Derived.WalkLawsBesides
import Derived.Lib.Hide
import Derived.BigQuiet
import Derived.Deep.DeepCutAuto
import Derived.Deep.OwnRows
import Derived.Deep.AppendLies
import Derived.Shelf.Abstract
import Derived.Lib.AppendZerosOnto
import Derived.Lib.Overlaps
import Derived.Deep.RegionLaw
set_option linter.unusedVariables false
set_option linter.unusedSimpArgs false
set_option maxRecDepth 100000
set_option maxHeartbeats 8000000
namespace Go.Proofs.YtgoddboicjfkcaaGreat
theorem Ja {c:Prop} {h:Decidable c} (n:¬c) {α:Sort _} {t e:α}:ite c t e=e:=if_neg n
theorem Jb {c:Prop} {h:Decidable c} (n:c) {α:Sort _} {t e:α}:ite c t e=t:=if_pos n
theorem Qa {p:Prop} (h:p):Go.RowKit.Hid p:=Go.Lib.hid h
namespace dn
abbrev Bs:=List UInt8
abbrev En:=ByteArray×Int
def lessB (a b:ByteArray):Bool:=Op.bytesLess a.toList b.toList
theorem bl_irrefl (a:Bs):Op.bytesLess a a=false:=by
 induction a with
 | nil=>rfl
 | cons x a ih=>simp [Op.bytesLess,ih]
theorem bl_total (a b:Bs) (h:a≠b):Op.bytesLess a b=!Op.bytesLess b a:=by
 induction a generalizing b with
 | nil =>
  cases b with
  | nil=>exact absurd rfl h
  | cons y b=>rfl
 | cons x a ih =>
  cases b with
  | nil=>rfl
  | cons y b =>
   by_cases hxy:x=y
   ·subst hxy
    simp [Op.bytesLess,ih b (fun e=>h (by rw [e]))]
   ·have h1:x.toNat≠y.toNat:=fun e=>hxy (UInt8.toNat_inj.1 e)
    have h2:(x == y)=false:=by simpa using hxy
    have h3:(y == x)=false:=by simpa using fun e=>hxy e.symm
    simp only [Op.bytesLess,h2,h3,Bool.false_and,Bool.or_false]
    rcases Nat.lt_or_ge x.toNat y.toNat with h|h
    ·have a1:x<y:=UInt8.lt_iff_toNat_lt.2 h
     have a2:¬y<x:=fun e=>by have:=UInt8.lt_iff_toNat_lt.1 e;omega
     simp [a1,a2]
    ·have a1:y<x:=UInt8.lt_iff_toNat_lt.2 (by omega)
     have a2:¬x<y:=fun e=>by have:=UInt8.lt_iff_toNat_lt.1 e;omega
     simp [a1,a2]
theorem bl_trans (a b c:Bs) (h1:Op.bytesLess a b=true) (h2:Op.bytesLess b c=true):Op.bytesLess a c=true:=by
 induction a generalizing b c with
 | nil =>
  cases c with
  | nil=>cases b <;> simp [Op.bytesLess] at h2
  | cons z c=>rfl
 | cons x a ih =>
  cases b with
  | nil=>simp [Op.bytesLess] at h1
  | cons y b =>
   cases c with
   | nil=>simp [Op.bytesLess] at h2
   | cons z c =>
    simp only [Op.bytesLess,Bool.or_eq_true,Bool.and_eq_true,decide_eq_true_eq,beq_iff_eq,UInt8.lt_iff_toNat_lt] at h1 h2 ⊢
    rcases h1 with h1|⟨rfl,h1⟩
    ·rcases h2 with h2|⟨rfl,h2⟩
     ·exact .inl (by omega)
     ·exact .inl h1
    ·rcases h2 with h2|⟨rfl,h2⟩
     ·exact .inl h2
     ·exact .inr ⟨rfl,ih b c h1 h2⟩
theorem toList_inj {a b:ByteArray} (h:a.toList=b.toList):a=b:=by
 rw [Lib.toList_data,Lib.toList_data] at h
 rw [←Lib.mk_data a,←Lib.mk_data b,h]
theorem beq_names (a b:ByteArray):(a.toList == b.toList)=decide (a=b):=by
 by_cases h:a=b
 ·subst h;simp
 ·rw [decide_eq_false h,beq_eq_false_iff_ne];exact fun e=>h (toList_inj e)
theorem less_irrefl (a:ByteArray):lessB a a=false:=bl_irrefl _
theorem less_total {a b:ByteArray} (h:a≠b):lessB a b=!lessB b a:=bl_total _ _ fun e=>h (toList_inj e)
theorem less_trans {a b c:ByteArray} (h1:lessB a b=true) (h2:lessB b c=true):lessB a c=true:=bl_trans _ _ _ h1 h2
theorem less_ne {a b:ByteArray} (h:lessB a b=true):a≠b:=fun e=>by subst e;rw [less_irrefl] at h;cases h
theorem less_asymm {a b:ByteArray} (h:lessB a b=true):lessB b a=false:=by
 rw [less_total (less_ne h)] at h;simpa using h
theorem less_of {a b:ByteArray} (h1:a≠b) (h2:lessB a b=false):lessB b a=true:=by
 rw [less_total h1] at h2;simpa using h2
def Sorted (L:List En):Prop:=L.Pairwise fun a b=>lessB a.1 b.1=true
def lset (s:ByteArray) (v:Int):List En→List En
 | []=>[(s,v)]
 | e::l=>if lessB e.1 s then e::lset s v l else if e.1=s then (s,v)::l else (s,v)::e::l
def lget (s:ByteArray) (L:List En):Option Int:=(L.find? fun e=>decide (e.1=s)).map (·.2)
def ldel (s:ByteArray) (L:List En):List En:=L.filter fun e=>!decide (e.1=s)
theorem Sorted.cons {e:En} {l:List En} (h:Sorted (e::l)):Sorted l∧∀x∈l,lessB e.1 x.1=true:=⟨(List.pairwise_cons.1 h).2,(List.pairwise_cons.1 h).1⟩
theorem lset_mem {s:ByteArray} {v:Int} {L:List En} (h:Sorted L) (e:En):e∈lset s v L↔e=(s,v)∨(e∈L∧e.1≠s):=by
 induction L with
 | nil=>simp [lset]
 | cons x l ih =>
  obtain ⟨h1,h2⟩:=h.cons
  unfold lset
  by_cases hx:lessB x.1 s=true
  ·rw [Jb hx,List.mem_cons,ih h1,List.mem_cons]
   have ma:=less_ne hx
   constructor
   ·rintro (rfl|h|⟨h,h'⟩)
    ·exact .inr ⟨.inl rfl,ma⟩
    ·exact .inl h
    ·exact .inr ⟨.inr h,h'⟩
   ·rintro (h|⟨rfl|h,h'⟩)
    ·exact .inr (.inl h)
    ·exact .inl rfl
    ·exact .inr (.inr ⟨h,h'⟩)
  ·rw [Ja hx]
   by_cases hs:x.1=s
   ·rw [Jb hs,List.mem_cons,List.mem_cons]
    constructor
    ·rintro (h|h)
     ·exact .inl h
     ·exact .inr ⟨.inr h,fun e'=>less_ne (h2 e h) (hs.trans e'.symm)⟩
    ·rintro (h|⟨rfl|h,h'⟩)
     ·exact .inl h
     ·exact absurd hs h'
     ·exact .inr h
   ·rw [Ja hs,List.mem_cons,List.mem_cons]
    have qa:lessB s x.1=true:=less_of hs (by simpa using hx)
    constructor
    ·rintro (h|rfl|h)
     ·exact .inl h
     ·exact .inr ⟨.inl rfl,hs⟩
     ·exact .inr ⟨.inr h,fun e'=>less_ne (less_trans qa (h2 e h)) e'.symm⟩
    ·rintro (h|⟨h,_⟩)
     ·exact .inl h
     ·exact .inr h
theorem lset_sorted {s:ByteArray} {v:Int} {L:List En} (h:Sorted L):Sorted (lset s v L):=by
 induction L with
 | nil=>simp [lset,Sorted]
 | cons x l ih =>
  obtain ⟨h1,h2⟩:=h.cons
  unfold lset
  by_cases hx:lessB x.1 s=true
  ·rw [Jb hx]
   refine List.pairwise_cons.2 ⟨fun e he=>?_,ih h1⟩
   rcases (lset_mem h1 e).1 he with rfl|⟨he,_⟩
   ·exact hx
   ·exact h2 e he
  ·rw [Ja hx]
   by_cases hs:x.1=s
   ·rw [Jb hs]
    exact List.pairwise_cons.2 ⟨fun e he=>by have:=h2 e he;rw [hs] at this;exact this,h1⟩
   ·rw [Ja hs]
    have ma:lessB s x.1=true:=less_of hs (by simpa using hx)
    refine List.pairwise_cons.2 ⟨fun e he=>?_,h⟩
    rcases List.mem_cons.1 he with rfl|he
    ·exact ma
    ·exact less_trans ma (h2 e he)
theorem ldel_mem {s:ByteArray} {L:List En} (e:En):e∈ldel s L↔e∈L∧e.1≠s:=by simp [ldel,List.mem_filter]
theorem ldel_sorted {s:ByteArray} {L:List En} (h:Sorted L):Sorted (ldel s L):=List.Pairwise.filter _ h
theorem names_inj {L:List En} (h:Sorted L) {a b:En} (ha:a∈L) (hb:b∈L) (e:a.1=b.1):a=b:=by
 induction L with
 | nil=>cases ha
 | cons x l ih =>
  obtain ⟨h1,h2⟩:=h.cons
  rcases List.mem_cons.1 ha with rfl|ha' <;> rcases List.mem_cons.1 hb with rfl|hb'
  ·rfl
  ·exact absurd e (less_ne (h2 b hb'))
  ·exact absurd e.symm (less_ne (h2 a ha'))
  ·exact ih h1 ha' hb'
theorem lget_some {s:ByteArray} {v:Int} {L:List En} (h:Sorted L):lget s L=some v↔(s,v)∈L:=by
 unfold lget
 constructor
 ·intro e
  cases hf:L.find? fun e=>decide (e.1=s) with
  | none=>rw [hf] at e;simp at e
  | some x =>
   rw [hf] at e
   have h1:=List.mem_of_find?_eq_some hf
   have h2:=List.find?_some hf
   simp at h2 e
   obtain ⟨a,b⟩:=x
   simp at h2 e
   subst h2;subst e
   exact h1
 ·intro hm
  cases hf:L.find? fun e=>decide (e.1=s) with
  | none =>
   have:=List.find?_eq_none.1 hf (s,v) hm
   simp at this
  | some x =>
   have h1:=List.mem_of_find?_eq_some hf
   have h2:=List.find?_some hf
   simp at h2
   have:=names_inj h h1 hm h2
   subst this
   rfl
theorem lget_none {s:ByteArray} {L:List En}:lget s L=none↔∀e∈L,e.1≠s:=by simp [lget]
theorem sorted_ext {L K:List En} (hL:Sorted L) (hK:Sorted K) (h:∀e,e∈L↔e∈K):L=K:=by
 induction L generalizing K with
 | nil =>
  cases K with
  | nil=>rfl
  | cons y k=>have:=(h y).2 (by simp);cases this
 | cons x l ih =>
  cases K with
  | nil=>have:=(h x).1 (by simp);cases this
  | cons y k =>
   obtain ⟨l1,l2⟩:=hL.cons
   obtain ⟨k1,k2⟩:=hK.cons
   have ma:x=y:=by
    rcases List.mem_cons.1 ((h x).1 (by simp)) with e|e1
    ·exact e
    ·rcases List.mem_cons.1 ((h y).2 (by simp)) with e|e2
     ·exact e.symm
     ·have:=less_asymm (l2 y e2);rw [k2 x e1] at this;cases this
   subst ma
   refine congrArg _ (ih l1 k1 fun e=>⟨fun he=>?_,fun he=>?_⟩)
   ·rcases List.mem_cons.1 ((h e).1 (by simp [he])) with rfl|h'
    ·have:=l2 e he;rw [less_irrefl] at this;cases this
    ·exact h'
   ·rcases List.mem_cons.1 ((h e).2 (by simp [he])) with rfl|h'
    ·have:=k2 e he;rw [less_irrefl] at this;cases this
    ·exact h'
def pos (s:ByteArray):List En→Nat
 | []=>0
 | e::l=>if lessB e.1 s then pos s l+1 else 0
theorem pos_le (s:ByteArray) (L:List En):pos s L≤L.length:=by
 induction L with
 | nil=>exact Nat.le_refl _
 | cons x l ih=>unfold pos;split <;> simp <;> omega
theorem pos_lt {s:ByteArray} {L:List En} {i:Nat} (hi:i<pos s L) {x:En} (hx:L[i]?=some x):lessB x.1 s=true:=by
 induction L generalizing i with
 | nil=>simp [pos] at hi
 | cons y l ih =>
  unfold pos at hi
  split at hi
  ·rename_i h
   cases i with
   | zero=>simp at hx;subst hx;exact h
   | succ i=>exact ih (i:=i) (by omega) (by simpa using hx)
  ·omega
theorem pos_ge {s:ByteArray} {L:List En} (hs:Sorted L) {i:Nat} (hi:pos s L≤i) {x:En} (hx:L[i]?=some x):lessB x.1 s=false:=by
 induction L generalizing i with
 | nil=>simp at hx
 | cons y l ih =>
  obtain ⟨h1,h2⟩:=hs.cons
  unfold pos at hi
  split at hi
  ·cases i with
   | zero=>omega
   | succ i=>exact ih (i:=i) h1 (by omega) (by simpa using hx)
  ·rename_i h
   cases i with
   | zero=>simp at hx;subst hx;simpa using h
   | succ i =>
    have hm:x∈l:=List.mem_of_getElem? (by simpa using hx)
    rw [Bool.eq_false_iff]
    intro hc
    exact h (less_trans (h2 x hm) hc)
theorem lget_pos {s:ByteArray} {L:List En} (hs:Sorted L):lget s L=match L[pos s L]? with|some x=>if x.1=s then some x.2 else none|none=>none:=by
 cases hx:L[pos s L]? with
 | none =>
  simp only
  rw [lget_none]
  intro e he hn
  obtain ⟨i,hi,rfl⟩:=List.getElem_of_mem he
  have hl:L.length≤pos s L:=by simpa using hx
  have:=pos_lt (s:=s) (L:=L) (i:=i) (by omega) (List.getElem?_eq_getElem hi)
  exact less_ne this hn
 | some x =>
  simp only
  split
  ·rename_i hn
   rw [lget_some hs,←hn]
   exact List.mem_of_getElem? hx
  ·rename_i hn
   rw [lget_none]
   intro e he hne
   obtain ⟨i,hi,rfl⟩:=List.getElem_of_mem he
   rcases Nat.lt_trichotomy i (pos s L) with h|h|h
   ·exact less_ne (pos_lt h (List.getElem?_eq_getElem hi)) hne
   ·subst h
    rw [List.getElem?_eq_getElem hi] at hx
    simp at hx
    exact hn (by rw [←hx];exact hne)
   ·have h1:=List.pairwise_iff_getElem.1 hs (pos s L) i (by omega) hi h
    have h2:L[pos s L]=x:=by rw [List.getElem?_eq_getElem (by omega)] at hx;simpa using hx
    have h3:=pos_ge hs (Nat.le_refl _) hx
    rw [h2,hne] at h1
    rw [h1] at h3
    cases h3
theorem lset_new {s:ByteArray} {v:Int} {L:List En} (h:∀x,L[pos s L]?=some x→x.1≠s):lset s v L=L.take (pos s L)++(s,v)::L.drop (pos s L):=by
 induction L with
 | nil=>rfl
 | cons y l ih =>
  unfold lset pos
  by_cases hy:lessB y.1 s=true
  ·rw [Jb hy,Jb hy,List.take_succ_cons,List.drop_succ_cons,List.cons_append,←ih]
   intro x hx
   refine h x ?_
   unfold pos
   rw [Jb hy]
   simpa using hx
  ·rw [Ja hy,Ja hy]
   have:y.1≠s:=h y (by unfold pos;rw [Ja hy];rfl)
   rw [Ja this]
   rfl
theorem lset_old {s:ByteArray} {v:Int} {L:List En} {x:En} (h:L[pos s L]?=some x) (hx:x.1=s):lset s v L=L.set (pos s L) (s,v):=by
 induction L with
 | nil=>simp at h
 | cons y l ih =>
  unfold lset pos
  unfold pos at h
  by_cases hy:lessB y.1 s=true
  ·rw [Jb hy] at h ⊢
   rw [Jb hy,List.set_cons_succ,ih (by simpa using h)]
  ·rw [Ja hy] at h ⊢
   simp at h
   subst h
   rw [Ja hy,Jb hx]
   rfl
theorem ldel_no {s:ByteArray} {L:List En} (h:lget s L=none):ldel s L=L:=by
 rw [lget_none] at h
 unfold ldel
 rw [List.filter_eq_self]
 intro x hx
 simpa using h x hx
theorem ldel_at {s:ByteArray} {L:List En} (hs:Sorted L) {x:En} (h:L[pos s L]?=some x) (hx:x.1=s):ldel s L=L.eraseIdx (pos s L):=by
 induction L with
 | nil=>simp at h
 | cons y l ih =>
  obtain ⟨h1,h2⟩:=hs.cons
  unfold pos
  unfold pos at h
  by_cases hy:lessB y.1 s=true
  ·rw [Jb hy] at h ⊢
   rw [List.eraseIdx_cons_succ,←ih h1 (by simpa using h)]
   unfold ldel
   rw [List.filter_cons,Jb (by simpa using less_ne hy)]
  ·rw [Ja hy] at h ⊢
   simp at h
   subst h
   rw [List.eraseIdx_cons_zero]
   unfold ldel
   rw [List.filter_cons,Ja (by simpa using hx),List.filter_eq_self]
   intro z hz
   have:=less_ne (h2 z hz)
   simpa using fun e=>this (hx.trans e.symm)
end dn
namespace dn
open Go.RowKit
abbrev Ev (x:En):Value:=.agg #[.string x.1,.int .i64 x.2]
theorem below_alloc (w:World) (o:Obj):Below w.heap.size w (w.alloc o):=(Below.refl _ _).alloc (Nat.le_refl _) _
theorem below_step {w0 w w':World} (h:Below w0.heap.size w0 w) (hb:Below w.heap.size w w'):Below w0.heap.size w0 w':=h.trans (hb.mono h.size)
theorem below_drewN {B:Nat} {a w:World} (h:Below B a w) (n:Nat):Below B a (w.drewN n):=⟨h.os,h.tape,h.output,h.size,h.block⟩
def RetB (w:World) (b:Bool) (e:Ending) (w':World):Prop:=e=.returned (.bool b)∧Below w.heap.size w w'
def RetI (w:World) (v:Int) (e:Ending) (w':World):Prop:=e=.returned (.int .i64 v)∧Below w.heap.size w w'
def RetV (w:World) (v:Value) (e:Ending) (w':World):Prop:=e=.returned v∧Below w.heap.size w w'
structure BelowOf (w:World) where
 W:World
 h:Below w.heap.size w W
instance (w:World):Inhabited (BelowOf w):=⟨⟨w,Below.refl _ _⟩⟩
def encL:List En→List Value
 | []=>[]
 | x::l=>.string x.1::.int .i64 x.2::encL l
theorem encL_length (L:List En):(encL L).length=L.length*2:=by
 induction L with
 | nil=>rfl
 | cons x l ih=>simp [encL,ih];omega
theorem encL_append (L K:List En):encL (L++K)=encL L++encL K:=by
 induction L with
 | nil=>rfl
 | cons x l ih=>simp [encL,ih]
theorem encL_at {L:List En} {i:Nat} {x:En} (h:L[i]?=some x):(encL L)[i*2]?=some (.string x.1)∧(encL L)[i*2+1]?=some (.int .i64 x.2):=by
 induction L generalizing i with
 | nil=>simp at h
 | cons y l ih =>
  cases i with
  | zero=>simp at h;subst h;exact ⟨rfl,rfl⟩
  | succ i =>
   have:=ih (i:=i) (by simpa using h)
   rw [show (i+1)*2=i*2+1+1 by omega]
   simpa [encL] using this
theorem encL_take (L:List En) (i:Nat):(encL L).take (i*2)=encL (L.take i):=by
 induction L generalizing i with
 | nil=>simp [encL]
 | cons x l ih =>
  cases i with
  | zero=>simp [encL]
  | succ i=>rw [show (i+1)*2=i*2+1+1 by omega];simp [encL,ih]
theorem encL_drop (L:List En) (i:Nat):(encL L).drop (i*2)=encL (L.drop i):=by
 induction L generalizing i with
 | nil=>simp [encL]
 | cons x l ih =>
  cases i with
  | zero=>simp
  | succ i=>rw [show (i+1)*2=i*2+1+1 by omega];simp [encL,ih]
theorem encL_one (L:List En):∀v∈encL L,v.oneCell'=true:=by
 induction L with
 | nil=>simp [encL]
 | cons x l ih =>
  intro v hv
  simp only [encL,List.mem_cons] at hv
  rcases hv with rfl|rfl|hv
  ·rfl
  ·rfl
  ·exact ih v hv
def ERow (w:World) (G c:Nat) (L:List En):Prop:=L.length≤c∧c≤maxLen∧∃X:List Value,w.heap[G]?=some (.cells X.toArray 125 (0,0))∧X.length=c*2∧X.take (L.length*2)=encL L
theorem ERow.cells {w:World} {G c:Nat} {L:List En} (h:ERow w G c L) {j:Nat} {v:Value} (hj:(encL L)[j]?=some v):w.cell? ⟨G,j,none⟩=some v:=by
 obtain ⟨h1,h2,X,hX,hl,ht⟩:=h
 have ma:j<L.length*2:=by rw [←encL_length];exact (List.getElem?_eq_some_iff.1 hj).1
 rw [←ht,List.getElem?_take_of_lt ma] at hj
 simp [World.cell?,hX,hj]
theorem ERow.at_ {w:World} {G c:Nat} {L:List En} (h:ERow w G c L) {i:Nat} {x:En} (hx:L[i]?=some x):w.cell? ⟨G,i*2,none⟩=some (.string x.1)∧w.cell? ⟨G,i*2+1,none⟩=some (.int .i64 x.2) :=
 ⟨h.cells (encL_at hx).1,h.cells (encL_at hx).2⟩
theorem ERow.some_ {w:World} {G c:Nat} {L:List En} (h:ERow w G c L) {j:Nat} (hj:j<c*2):(w.cell? ⟨G,j,none⟩).isSome=true:=by
 obtain ⟨h1,h2,X,hX,hl,ht⟩:=h
 simp [World.cell?,hX,hl,hj]
theorem ERow.frozen {w:World} {G c:Nat} {L:List En} (h:ERow w G c L) (o:Nat):w.frozen? ⟨G,o,none⟩=false:=by
 obtain ⟨h1,h2,X,hX,hl,ht⟩:=h
 simp [World.frozen?,hX]
theorem ERow.lt {w:World} {G c:Nat} {L:List En} (h:ERow w G c L):G<w.heap.size:=by
 obtain ⟨h1,h2,X,hX,hl,ht⟩:=h
 exact (Array.getElem?_eq_some_iff.1 hX).1
theorem ERow.of_block {w w':World} {G c:Nat} {L:List En} (h:ERow w G c L) (e:w'.heap[G]?=w.heap[G]?):ERow w' G c L:=by
 obtain ⟨h1,h2,X,hX,r⟩:=h
 exact ⟨h1,h2,X,e.trans hX,r⟩
theorem ERow.shape {w:World} {G c:Nat} {L:List En} (h:ERow w G c L):w.shape? G=some (125,c*2):=by
 obtain ⟨h1,h2,X,hX,hl,ht⟩:=h
 simp [World.shape?,hX,hl]
theorem ERow.owns {w:World} {G c lo:Nat} {L:List En} (h:ERow w G c L) (hlo:lo≤G):w.ownsRow lo 125 2 (.slice (some ⟨G,0,none⟩) L.length c) L.length (encL L):=by
 obtain ⟨h1,h2,X,hX,hl,ht⟩:=h
 exact ⟨encL_length L,.inr ⟨G,c,X.toArray,rfl,hlo,hX,h1,h2,by simpa using hl,by simpa using ht⟩⟩
theorem ERow.of_owns {w:World} {G c n lo:Nat} {L:List En} (h:w.ownsRow lo 125 2 (.slice (some ⟨G,0,none⟩) n c) n (encL L)) (hn:n=L.length):ERow w G c L∧lo≤G:=by
 subst hn
 rcases h.2 with ⟨e,_⟩|⟨G',c',cur,hv,hb,hg,h1,h2,hs,ht⟩
 ·cases e
 ·injection hv with e1 e2 e3
  injection e1 with e1
  injection e1 with e1
  subst e1;subst e3
  exact ⟨⟨h1,h2,cur.toList,by simpa using hg,by simpa using hs,ht⟩,hb⟩
theorem setCells_row {w:World} {G o:Nat} {X:List Value} {t:TypeId} {vs:List Value} (hX:w.heap[G]?=some (.cells X.toArray t (0,0))) (hfit:o+vs.length≤X.length) (h1:∀v∈vs,v.oneCell'=true) :
  w.setCells G o vs=w.setRow G (X.take o++vs++X.drop (o+vs.length)).toArray:=by
 have a:=run_storeCells_at Tryz.prog G o t vs 0 X.toArray w hX (by simpa using hfit) h1
 have b:=run_storeCells_cells (P:=Tryz.prog) G o vs 0 w (fun j hj=>by simp [World.cell?,hX];omega) (fun j hj=>by simp [World.frozen?,hX]) h1
 rw [a] at b
 simp only [Nat.add_zero] at b
 injection b with _ b
 exact b.symm
theorem ERow.sets {w:World} {G c o:Nat} {L K:List En} {vs:List Value} (h:ERow w G c L) (hfit:o+vs.length≤c*2) (h1:∀v∈vs,v.oneCell'=true) (hK:K.length≤c)
  (e:∀X:List Value,X.length=c*2→X.take (L.length*2)=encL L→(X.take o++vs++X.drop (o+vs.length)).take (K.length*2)=encL K):ERow (w.setCells G o vs) G c K:=by
 obtain ⟨a,b,X,hX,hl,ht⟩:=h
 rw [setCells_row hX (by rw [hl];exact hfit) h1]
 refine ⟨hK,b,_,setRow_heap w G _ _ 125 _ hX,?_,e X hl ht⟩
 simp
 omega
theorem grownBy_trans {w w1 w2:World} {r:Option Nat} (h:w.grownBy w1 r) (h':w1.grownBy w2 r):w.grownBy w2 r :=
 ⟨h'.os.trans h.os,h'.tape.trans h.tape,h'.output.trans h.output,Nat.le_trans h.size h'.size,fun k hk hr=>(h'.block k (Nat.lt_of_lt_of_le hk h.size) hr).trans (h.block k hk hr)⟩
theorem grownBy_refl (w:World) (r:Option Nat):w.grownBy w r:=⟨rfl,rfl,rfl,Nat.le_refl _,fun _ _ _=>rfl⟩
theorem grownBy_below {w w':World} (h:Below w.heap.size w w') (r:Option Nat):w.grownBy w' r:=⟨h.os,h.tape,h.output,h.size,fun k hk _=>h.block k hk⟩
theorem grownBy_set (w:World) (G o:Nat) (v:Value):w.grownBy (w.setCell ⟨G,o,none⟩ v) (some G) :=
 ⟨rfl,rfl,rfl,by simp [World.setCell],fun k _ hr=>Below.heap_setCell _ _ _ _ (fun e=>hr (by rw [e]))⟩
theorem grownBy_sets (G:Nat):∀(vs:List Value) (o:Nat) (w:World),w.grownBy (w.setCells G o vs) (some G)
 | [],_,w=>grownBy_refl w _
 | v::r,o,w=>grownBy_trans (grownBy_set w G o v) (grownBy_sets G r (o+1) _)
theorem grownBy_drew (w:World) (r:Option Nat):w.grownBy w.drew r:=⟨rfl,rfl,rfl,Nat.le_refl _,fun _ _ _=>rfl⟩
theorem info37:(Tryz.prog.info? 125).map (fun i=>(i.zero,i.size,i.bytes))=some (some (.agg #[.string ByteArray.empty,.int .i64 0]),2,24):=by kernel_rfl
theorem run_copy2 (w:World) (dT sT ty:TypeId) (b o dLen dCap:Nat) (a:Addr) (sLen sCap m:Nat) (cs:List Value)
  (hu:Tryz.prog.underlying dT=some (.slice 125)) (hm:m=Nat.min sLen dLen) (hn:cs.length=m*2)
  (hsrc:∀j v,cs[j]?=some v→w.cell? (a.add j)=some v) (hc:∀j,j<cs.length→(w.cell? ⟨b,o+j,none⟩).isSome=true) (hf:∀j,j<cs.length→w.frozen? ⟨b,o+j,none⟩=false) (h1:∀v∈cs,v.oneCell'=true) :
  (Builtin.copy_ #[dT,sT] ty #[.slice (some ⟨b,o,none⟩) dLen dCap,.slice (some a) sLen sCap]).run Tryz.prog w=.ok (goInt m) (w.setCells b o cs):=by
 have hl:=run_loadCells_list (P:=Tryz.prog) w a cs hsrc
 have ma:=run_storeCells_cells (P:=Tryz.prog) b o cs 0 w (by simpa using hc) (by simpa using hf) h1
 obtain ⟨i0,hi,hz0,hz1,hz2⟩:=info_parts info37
 subst hm
 simp [Builtin.copy_,run_underlying hu,Builtin.lenOf,Builtin.firstCells,sizeOf,typeInfo,hi,hz1,←hn,hl,ma]
end dn
namespace dn
open Go.RowKit Go.Shelf
abbrev Ao (o:Option Nat):Option Addr:=o.map fun G=>⟨G,0,none⟩
abbrev Pq (Q:Nat):Value:=.pointer (some ⟨Q,0,none⟩)
structure Du (w:World) (D lo:Nat) (o:Option Nat) (c:Nat) (L:List En):Prop where
 d0:w.cell? ⟨D,0,none⟩=some (.slice (Ao o) L.length c)
 f0:w.frozen? ⟨D,0,none⟩=false
 row:match o with|none=>L=[]∧c=0|some G=>lo≤G∧D≠G∧ERow w G c L
theorem Du.lt {w:World} {D lo c:Nat} {o:Option Nat} {L:List En} (h:Du w D lo o c L):D<w.heap.size:=World.block_lt_of_cell? w _ h.d0
theorem Du.of_blocks {w w':World} {D lo c:Nat} {o:Option Nat} {L:List En} (h:Du w D lo o c L) (hD:w'.heap[D]?=w.heap[D]?) (hG:∀G,o=some G→w'.heap[G]?=w.heap[G]?):Du w' D lo o c L:=by
 refine ⟨(World.cell?_of_block (a:=⟨D,0,none⟩) hD).trans h.d0,(World.frozen?_of_block (a:=⟨D,0,none⟩) hD).trans h.f0,?_⟩
 cases o with
 | none=>exact h.row
 | some G=>exact ⟨h.row.1,h.row.2.1,h.row.2.2.of_block (hG G rfl)⟩
theorem Du.glt {w:World} {D lo c:Nat} {o:Option Nat} {L:List En} (h:Du w D lo o c L):∀G,o=some G→G<w.heap.size∧lo≤G∧D≠G:=by
 intro G e;subst e;exact ⟨h.row.2.2.lt,h.row.1,h.row.2.1⟩
theorem Du.below {w w':World} {D lo c:Nat} {o:Option Nat} {L:List En} (h:Du w D lo o c L) (hb:Below w.heap.size w w'):Du w' D lo o c L :=
 h.of_blocks (hb.block _ h.lt) fun G e=>hb.block _ (h.glt G e).1
theorem Du.at_ {w:World} {D lo c:Nat} {o:Option Nat} {L:List En} (h:Du w D lo o c L) {i:Nat} {x:En} (hx:L[i]?=some x) :
  ∃G,o=some G∧w.cell? ⟨G,i*2,none⟩=some (.string x.1)∧w.cell? ⟨G,i*2+1,none⟩=some (.int .i64 x.2):=by
 cases o with
 | none=>rw [h.row.1] at hx;simp at hx
 | some G=>exact ⟨G,rfl,h.row.2.2.at_ hx⟩
theorem Du.cap {w:World} {D lo c:Nat} {o:Option Nat} {L:List En} (h:Du w D lo o c L):L.length≤c∧c≤maxLen:=by
 cases o with
 | none=>rw [h.row.1,h.row.2];exact ⟨Nat.le_refl _,by unfold maxLen;omega⟩
 | some G=>exact ⟨h.row.2.2.1,h.row.2.2.2.1⟩
theorem less_any (a b:ByteArray) (w:World):Calls Tryz.prog 81 #[.string a,.string b] w fun e w'=>e=.returned (.bool (lessB a b))∧w'=w:=by
 go_enter Tryz.func81,Tryz.ntmps81
 go_wp2
 go_ret
 exact ⟨rfl,rfl⟩
theorem asks33 (bd bn D lo c i:Nat) (o:Option Nat) (L:List En) (s:ByteArray) (x:En) (w:World) (hN:L.length≤1000000) (hd:w.cell? ⟨bd,0,none⟩=some (Pq D)) (hn:w.cell? ⟨bn,0,none⟩=some (.string s)) (h:Du w D lo o c L) (hx:L[i]?=some x) :
  Calls Tryz.prog 209 #[.int .i64 i,.pointer (some ⟨bd,0,none⟩),.pointer (some ⟨bn,0,none⟩)] w (RetB w (!lessB x.1 s)):=by
 have hi:i<L.length:=(List.getElem?_eq_some_iff.1 hx).1
 have d0:=h.d0
 obtain ⟨G,rfl,f0,f1⟩:=h.at_ hx
 have hC:=fun W=>less_any x.1 s W
 have HH:=Qa h
 generalize L.length=n at *
 obtain ⟨xs,xv⟩:=x
 dsimp only at *
 clear hx h f1
 generalize lessB xs s=r at *
 go_enter Tryz.func209,Tryz.ntmps209
 go_wp2_with fail
 go_quiet ((go_at_call 81;exact Calls.quiet_of_same (hC _)))
 go_wp2_with fail
 go_ret
 exact ⟨rfl,below_drewN (Below.refl _ _) _⟩
theorem search_any (f n k:Nat) (env:Array Value) (p:Nat→Bool) (w:World) (hE:Enters Tryz.prog f) (hN:n≤1000000) (hk:k≤n)
  (hf:∀W,Below w.heap.size w W→∀i,i<n→Calls Tryz.prog f (#[.int .i64 i]++env) W (RetB W (p i)))
  (hlo:∀i,i<k→p i=false) (hhi:∀i,k≤i→i<n→p i=true) :
  Calls Tryz.prog 208 #[.int .i64 n,.func (.func f) #[] env] w (RetI w k):=by
 have HF:=Qa hf
 have Qc:=Qa hlo
 have Qd:=Qa hhi
 unfold Enters at hE
 clear hf hlo hhi
 go_enter Tryz.func208,Tryz.ntmps208
 go_wp2_with fail
 go_loopg [5,6] n (fun kx s5 s6 wr=>∃lo hi:Nat,s5=.int .i64 lo∧s6=.int .i64 hi∧lo≤k∧k≤hi∧hi≤n∧hi - lo≤kx∧Hid (Below w.heap.size w wr))
 case atStart=>exact ⟨0,n,rfl,rfl,by omega,by omega,by omega,by omega,Qa (Below.refl _ _)⟩
 case round =>
  obtain ⟨lo,hi,rfl,rfl,hl,hh,hin,hg,HB⟩:=hrel
  by_cases hlt:lo<hi
  ·have hc:=HF.out wr HB.out ((lo+hi) / 2) (by omega)
   rw [show (((lo+hi) / 2:Nat):Int)=((lo:Int)+(hi:Int)) / 2 by omega] at hc
   by_cases hp:(lo+hi) / 2<k
   ·rw [Qc.out _ hp] at hc
    have HC:=Qa hc
    clear hc
    go_wp2_with fail
    refine HC.out.mono ?_
    rintro e w2 ⟨rfl,hb2⟩
    have Qb:=Qa (below_step HB.out hb2)
    clear hb2
    go_wp2_with fail
    go_roundg (hi - ((lo+hi) / 2+1))
    case measure=>omega
    case rel=>exact ⟨(lo+hi) / 2+1,hi,by rw [show ((lo:Int)+(hi:Int)) / 2+1=(((lo+hi) / 2+1:Nat):Int) by omega],rfl,by omega,by omega,by omega,by omega,Qb⟩
   ·rw [Qd.out _ (by omega) (by omega)] at hc
    have HC:=Qa hc
    clear hc
    go_wp2_with fail
    refine HC.out.mono ?_
    rintro e w2 ⟨rfl,hb2⟩
    have Qb:=Qa (below_step HB.out hb2)
    clear hb2
    go_wp2_with fail
    go_roundg ((lo+hi) / 2 - lo)
    case measure=>omega
    case rel=>exact ⟨lo,(lo+hi) / 2,rfl,by rw [show ((lo:Int)+(hi:Int)) / 2=(((lo+hi) / 2:Nat):Int) by omega],by omega,by omega,by omega,by omega,Qb⟩
  ·obtain rfl:lo=k:=by omega
   obtain rfl:hi=lo:=by omega
   go_wp2_with fail
   go_ret
   exact ⟨rfl,HB.out⟩
theorem e33:Enters Tryz.prog 209:=enters_of Tryz.func209 (by kernel_rfl) rfl
def thereB (s:ByteArray) (L:List En):Bool:=match L[pos s L]? with|some x=>decide (x.1=s)|none=>false
def PlaceE (w:World) (s:ByteArray) (L:List En) (e:Ending) (w':World):Prop:=e=.returned (.tuple #[.int .i64 (pos s L),.bool (thereB s L)])∧Below w.heap.size w w'
theorem find33 (D lo c:Nat) (o:Option Nat) (L:List En) (s:ByteArray) (w:World) (hs:Sorted L) (hN:L.length≤1000000) (h:Du w D lo o c L) :
  Calls Tryz.prog 208 #[.int .i64 L.length,.func (.func 209) #[] #[.pointer (some ⟨w.heap.size,0,none⟩),.pointer (some ⟨w.heap.size+1,0,none⟩)]] ((w.alloc (.cells #[Pq D] 156)).alloc (.cells #[.string s] 9))
   (RetI ((w.alloc (.cells #[Pq D] 156)).alloc (.cells #[.string s] 9)) (pos s L)):=by
 have hb:Below w.heap.size w ((w.alloc (.cells #[Pq D] 156)).alloc (.cells #[.string s] 9)):=((Below.refl _ _).alloc (Nat.le_refl _) _).alloc (by simp) _
 refine search_any 209 L.length (pos s L) _ (fun i=>decide (pos s L≤i)) _ e33 hN (pos_le _ _) (fun W hW i hi=>?_) (fun i hi=>decide_eq_false (by omega)) (fun i hi _=>decide_eq_true hi)
 have hx:L[i]?=some L[i]:=List.getElem?_eq_getElem hi
 have:=asks33 w.heap.size (w.heap.size+1) D lo c i o L s L[i] W hN ((hW.cell (p:=⟨w.heap.size,0,none⟩) (by simp;omega)).trans (by simp)) ((hW.cell (p:=⟨w.heap.size+1,0,none⟩) (by simp)).trans (by simp)) ((h.below hb).below hW) hx
 have e:(!lessB L[i].1 s)=decide (pos s L≤i):=by
  by_cases hp:pos s L≤i
  ·rw [decide_eq_true hp,pos_ge hs hp hx];rfl
  ·rw [decide_eq_false hp,pos_lt (by omega) hx];rfl
 rw [e] at this
 exact this
theorem place_any (D lo c:Nat) (o:Option Nat) (L:List En) (s:ByteArray) (w:World) (hs:Sorted L) (hN:L.length≤1000000) (h:Du w D lo o c L) :
  Calls Tryz.prog 160 #[Pq D,.string s] w (PlaceE w s L):=by
 have HC:=Qa (find33 D lo c o L s w hs hN h)
 have hb:Below w.heap.size w ((w.alloc (.cells #[Pq D] 156)).alloc (.cells #[.string s] 9)):=((Below.refl _ _).alloc (Nat.le_refl _) _).alloc (by simp) _
 have hD:=h.lt
 have d0:=h.d0
 have HH:=Qa h
 have HB:=Qa hb
 have qa:=h.cap
 have ya:=pos_le s L
 have HT:Hid (thereB s L=match L[pos s L]? with|some x=>decide (x.1=s)|none=>false):=rfl
 have HX:=Qa (fun (hk:pos s L<L.length)=>(⟨L[pos s L],List.getElem?_eq_getElem hk⟩:∃x,L[pos s L]?=some x))
 unfold PlaceE
 generalize hn:L.length=n at *
 generalize hk:pos s L=k at *
 generalize hr:thereB s L=r at *
 have Qb:=Qa hn
 have Qf:=Qa hk
 clear h hb hn hk hr hs
 go_enter Tryz.func160,Tryz.ntmps160
 go_wp2_with fail
 refine HC.out.mono ?_
 rintro e w2 ⟨rfl,hb2⟩
 have b0:=(hb2.cell (p:=⟨w.heap.size,0,none⟩) (by simp;omega)).trans (show _=some (Pq D) by simp)
 have b1:=(hb2.cell (p:=⟨w.heap.size+1,0,none⟩) (by simp)).trans (show _=some (.string s) by simp)
 have Qc:=Qa ((HH.out.below HB.out).below hb2)
 have c0:=Qc.out.d0
 rw [Qb.out] at c0
 have Qd:=Qa (below_step HB.out hb2)
 by_cases hlt:k<n
 ·obtain ⟨x,hx⟩:=HX.out hlt
  obtain ⟨G,rfl,g0,g1⟩:=Qc.out.at_ hx
  have HR:=Qa (HT.out.trans (by rw [hx]))
  obtain ⟨xs,xv⟩:=x
  dsimp only at *
  rw [←beq_names] at HR
  have Qe:=HR
  obtain ⟨q,hq⟩:∃q,(xs.toList == s.toList)=q:=⟨_,rfl⟩
  have ja:r=q:=HR.out.trans hq
  subst ja
  have ma:decide ((k:Int)<(n:Int))=true:=by simpa using hlt
  clear HT HX hx g1 HC hb2 HR Qe d0
  go_wp2_with fail
  go_quiet (fail)
  go_wp2_with fail
  go_ret2
  exact ⟨rfl,below_drewN Qd.out _⟩
 ·have xa:k=n:=by omega
  have HR:=Qa (HT.out.trans (by rw [List.getElem?_eq_none (by rw [Qb.out];omega)]):r=false)
  subst xa
  have ma:decide ((k:Int)<(k:Int))=false:=by simp
  obtain rfl:r=false:=HR.out
  clear HT HX HC hb2 d0 hlt HR
  go_wp2_with fail
  go_quiet (fail)
  go_wp2_with fail
  go_ret2
  exact ⟨rfl,below_drewN Qd.out _⟩
def getV (s:ByteArray) (L:List En):Value:=match lget s L with|some v=>.tuple #[.int .i64 v,.int .i64 0]|none=>.tuple #[.int .i64 0,.int .i64 2]
theorem there_yes {s:ByteArray} {L:List En} (hs:Sorted L) (h:thereB s L=true):∃x,L[pos s L]?=some x∧x.1=s∧lget s L=some x.2:=by
 unfold thereB at h
 have h2:=lget_pos (s:=s) hs
 cases hx:L[pos s L]? with
 | none=>rw [hx] at h;cases h
 | some x =>
  rw [hx] at h h2
  have h3:x.1=s:=by simpa using h
  exact ⟨x,rfl,h3,by simpa [h3] using h2⟩
theorem there_no {s:ByteArray} {L:List En} (hs:Sorted L) (h:thereB s L=false):lget s L=none∧∀x,L[pos s L]?=some x→x.1≠s:=by
 unfold thereB at h
 have h2:=lget_pos (s:=s) hs
 cases hx:L[pos s L]? with
 | none=>rw [hx] at h2;exact ⟨h2,fun x e=>by cases e⟩
 | some x =>
  rw [hx] at h h2
  have h3:x.1≠s:=by simpa using h
  exact ⟨by simpa [h3] using h2,fun y e=>by injection e with e;subst e;exact h3⟩
theorem get_any (D lo c:Nat) (o:Option Nat) (L:List En) (s:ByteArray) (w:World) (hs:Sorted L) (hN:L.length≤1000000) (h:Du w D lo o c L) :
  Calls Tryz.prog 141 #[Pq D,.string s] w (RetV w (getV s L)):=by
 have HP:=Qa (place_any D lo c o L s w hs hN h)
 have HH:=Qa h
 unfold PlaceE at HP
 unfold RetV
 cases hb:thereB s L
 ·have HV:=Qa (show getV s L=.tuple #[.int .i64 0,.int .i64 2] by unfold getV;rw [(there_no hs hb).1])
  rw [hb] at HP
  generalize pos s L=k at *
  generalize getV s L=r at *
  clear hs hb h
  go_enter Tryz.func141,Tryz.ntmps141
  go_wp2_with fail
  refine HP.out.mono ?_
  rintro e w2 ⟨rfl,hb2⟩
  go_wp2_with fail
  go_ret2
  exact ⟨by rw [HV.out];rfl,hb2⟩
 ·obtain ⟨x,hx,hn,hl⟩:=there_yes hs hb
  have HV:=Qa (show getV s L=.tuple #[.int .i64 x.2,.int .i64 0] by unfold getV;rw [hl])
  rw [hb] at HP
  have hk:=(List.getElem?_eq_some_iff.1 hx).1
  have HX:=Qa (fun W (hb:Below w.heap.size w W)=>(h.below hb).at_ hx)
  have HD:=Qa (fun W (hb:Below w.heap.size w W)=>(h.below hb).d0)
  generalize pos s L=k at *
  generalize getV s L=r at *
  generalize L.length=n at *
  obtain ⟨xs,xv⟩:=x
  dsimp only at *
  clear hs hb h hx hn hl
  go_enter Tryz.func141,Tryz.ntmps141
  go_wp2_with fail
  refine HP.out.mono ?_
  rintro e w2 ⟨rfl,hb2⟩
  obtain ⟨G,rfl,f0,f1⟩:=HX.out w2 hb2
  have d0:=HD.out w2 hb2
  clear HP HX HD
  go_wp2_with fail
  go_ret2
  exact ⟨by rw [HV.out];rfl,hb2⟩
theorem dlen_any (D lo c:Nat) (o:Option Nat) (L:List En) (w:World) (h:Du w D lo o c L) :
  Calls Tryz.prog 181 #[Pq D] w (fun e w'=>e=.returned (.int .i64 L.length)∧w'=w):=by
 have d0:=h.d0
 generalize L.length=n at *
 clear h
 go_enter Tryz.func181,Tryz.ntmps181
 go_wp2_with fail
 go_ret
 exact ⟨rfl,rfl⟩
def InsE (w:World) (lo:Nat) (o:Option Nat) (n:Nat) (K:List En) (e:Ending) (w':World):Prop :=
 ∃G c',e=.returned (.slice (some ⟨G,0,none⟩) (n+1) c')∧ERow w' G c' K∧lo≤G∧(o=some G∨w.heap.size≤G)∧w.grownBy w' o
theorem wp_copy_run (w:World) {o:Oper} {a:Act} {K:Act→World→Prop} {Q:Exit→Act→World→Prop} (d s:Operand) (t t':TypeId)
  (ho:o.op=.call { callee:=.builtin .copy,args:=#[d,s],argTypes:=#[t,t'] }) (v u:Value) (hd:a.eval d=v) (hs:a.eval s=u) {v':Value} {w':World}
  (hr:(Builtin.copy_ #[t,t'] o.type #[v,u]).run Tryz.prog w=.ok v' w') (h:K (a.put o.dst v') w'):o.wp Tryz.prog a w K Q:=by
 unfold Oper.wp execOp
 simp only [ho,resolve,invoke,builtin,Sem.run_bind,Sem.run_pure,Result.andThen_ok,List.map_toArray,List.map_cons,List.map_nil,hd,hs,hr]
 exact h
theorem wpList_copy_run (w:World) {ops:Array Oper} {rest:List Oper} {o:Oper} {a:Act} {Q:Exit→Act→World→Prop} (hgd:o.guard=none) (d s:Operand) (t t':TypeId)
  (ho:o.op=.call { callee:=.builtin .copy,args:=#[d,s],argTypes:=#[t,t'] }) (v u:Value) (hd:a.eval d=v) (hs:a.eval s=u) {v':Value} {w':World}
  (hr:(Builtin.copy_ #[t,t'] o.type #[v,u]).run Tryz.prog w=.ok v' w') (h:wpList Tryz.prog ops Q rest (a.put o.dst v') w'):wpList Tryz.prog ops Q (o::rest) a w :=
 wpList_plain hgd fun _ hK=>wp_copy_run w d s t t' ho v u hd hs hr (hK _ _ h)
theorem step_copy_run {ops:Array Oper} {o:Oper} {a:Act} {w:World} {K:Act→World→Prop} {Q:Exit→Act→World→Prop} {E:Prop}
  (hg:o.guard=none) (d x:Operand) (dT sT:TypeId) (hop:o.op=Op.call { callee:=Callee.builtin Builtin.copy,args:=#[d,x],argTypes:=#[dT,sT] })
  (v u:Value) (hd:a.eval d=v) (hx:a.eval x=u) {v':Value} {w':World} (hr:(Builtin.copy_ #[dT,sT] o.type #[v,u]).run Tryz.prog w=.ok v' w') (hK:K (a.put o.dst v') w') :
  if Region.wanted o (yielded ops a.tmps)=true then Oper.wp Tryz.prog o a w K Q else E:=by
 have hw:Region.wanted o (yielded ops a.tmps)=true:=by simp [Region.wanted,hg]
 rw [Jb hw]
 exact wp_copy_run w d x dT sT hop v u hd hx hr hK
theorem encL_single (x:En):encL [x]=[.string x.1,.int .i64 x.2]:=rfl
theorem splice_take {X:List Value} {L:List En} {i:Nat} {x:En} (hi:i≤L.length) (hX:(L.length+1)*2≤X.length) (ht:X.take (L.length*2)=encL L) :
  let X1:=X.take ((i+1)*2)++encL (L.drop i)++X.drop ((i+1)*2+(encL (L.drop i)).length)
  (X1.take (i*2)++encL [x]++X1.drop (i*2+(encL [x]).length)).take ((L.length+1)*2)=encL (L.take i++x::L.drop i):=by
 intro X1
 have hl:(encL (L.drop i)).length=(L.length - i)*2:=by rw [encL_length,List.length_drop]
 have h1:X1.take (i*2)=encL (L.take i):=by
  show (X.take ((i+1)*2)++_++_).take (i*2)=_
  rw [List.append_assoc,List.take_append_of_le_length (by rw [List.length_take];omega),List.take_take,Nat.min_eq_left (by omega),←encL_take,←ht,List.take_take,Nat.min_eq_left (by omega)]
 have h2:X1.drop (i*2+(encL [x]).length)=encL (L.drop i)++X.drop ((i+1)*2+(encL (L.drop i)).length):=by
  show (X.take ((i+1)*2)++_++_).drop _=_
  rw [List.append_assoc,List.drop_append_of_le_length (by rw [List.length_take,encL_length];simp;omega),List.drop_eq_nil_of_le (by rw [List.length_take,encL_length];simp;omega),List.nil_append]
 rw [h1,h2,show L.take i++x::L.drop i=L.take i++[x]++L.drop i by simp,encL_append,encL_append,←List.append_assoc,List.take_append_of_le_length,List.take_of_length_le]
 ·rw [List.length_append,List.length_append,encL_length,hl,List.length_take,encL_length];simp;omega
 ·rw [List.length_append,List.length_append,encL_length,hl,List.length_take,encL_length];simp;omega
theorem cells_of_box {w:World} {vb:Nat} {x:En} (hv:w.heap[vb]?=some (.cells #[.string x.1,.int .i64 x.2] 125 (0,0))):∀j u,(encL [x])[j]?=some u→w.cell? ((⟨vb,0,none⟩:Addr).add j)=some u :=
 World.news_of_block (cs:=#[.string x.1,.int .i64 x.2]) hv
theorem isSome_setCells (b:Nat) (vs:List Value) (o:Nat) (w:World) (h:∀j,j<vs.length→(w.cell? ⟨b,o+j,none⟩).isSome=true) (k:Nat) (hk:(w.cell? ⟨b,k,none⟩).isSome=true):((w.setCells b o vs).cell? ⟨b,k,none⟩).isSome=true:=by
 by_cases hin:o≤k∧k<o+vs.length
 ·have:=World.cell?_setCells_in b vs o w h (k - o) (by omega)
  rw [show o+(k - o)=k by omega] at this
  rw [this];rfl
 ·rw [World.cell?_setCells_out b vs o w ⟨b,k,none⟩ (fun _ _=>by show k<o∨o+vs.length≤k;omega)]
  exact hk
theorem insE_room {w:World} {G c lo i:Nat} {L:List En} {x:En} (h:ERow w G c L) (hlo:lo≤G) (hi:i≤L.length) (hroom:L.length+1≤c) :
  InsE w lo (some G) L.length (L.take i++x::L.drop i) (.returned (.slice (some ⟨G,0,none⟩) (L.length+1) c)) ((w.drew.setCells G ((i+1)*2) (encL (L.drop i))).setCells G (i*2) (encL [x])):=by
 refine ⟨G,c,rfl,?_,hlo,.inl rfl,grownBy_trans (grownBy_trans (grownBy_drew _ _) (grownBy_sets G _ _ _)) (grownBy_sets G _ _ _)⟩
 obtain ⟨h1,h2,X,hX,hl,ht⟩:=h
 have hd:w.drew.heap[G]?=some (.cells X.toArray 125 (0,0)):=hX
 rw [setCells_row hd (by rw [encL_length,List.length_drop];omega) (encL_one _)]
 have hs:=setRow_heap w.drew G X.toArray (X.take ((i+1)*2)++encL (L.drop i)++X.drop ((i+1)*2+(encL (L.drop i)).length)).toArray 125 _ hd
 rw [setCells_row hs (by rw [encL_length];simp;omega) (encL_one _)]
 refine ⟨by simp;omega,h2,_,setRow_heap _ G _ _ 125 _ hs,?_,?_⟩
 ·simp [encL_length];omega
 ·have:=splice_take (x:=x) hi (by omega) ht
  simp only [List.length_append,List.length_cons,List.length_take,List.length_drop]
  rw [show min i L.length+(L.length - i+1)=L.length+1 by omega]
  exact this
theorem ins_room (G c lo i vb vc:Nat) (L:List En) (x:En) (w:World) (hi:i<L.length) (hroom:L.length+1≤c) (hN:L.length≤1000000) (hlo:lo≤G) (h:ERow w G c L) (hv:w.heap[vb]?=some (.cells #[.string x.1,.int .i64 x.2] 125 (0,0))) (hne:vb≠G) :
  Calls Tryz.prog 161 #[.slice (some ⟨G,0,none⟩) L.length c,.int .i64 i,.slice (some ⟨vb,0,none⟩) 1 vc] w (InsE w lo (some G) L.length (L.take i++x::L.drop i)):=by
 have HF:=Qa (insE_room (x:=x) h hlo (Nat.le_of_lt hi) hroom)
 have ya:c≤9223372036854775807:=h.2.1
 have da:∀lb cb,(callFunc 210 #[.slice (some ⟨vb,0,none⟩) 1 vc,.slice (some ⟨G,(i+1)*2,none⟩) lb cb]).run Tryz.prog w=.ok (.value (.bool false)) w:=fun lb cb=>by
  rw [run_callFunc_extern Tryz.func210 (by kernel_rfl) (by kernel_rfl) (by kernel_rfl) (e:=Extern.SlicesOverlaps.overlaps #[89,89] #[4]) (by kernel_rfl),
   Lib.run_overlaps_apart w 89 4 125 Tryz.underlying89 2 Tryz.sizeOf125 ⟨vb,0,none⟩ ⟨G,(i+1)*2,none⟩ 1 vc lb cb hne 125 125 2 (c*2) (by simp [World.shape?,hv]) h.shape (by omega) (by simp [World.frozen?,hv]) (by simp [World.frozen?,hv])]
  rfl
 have ja:(encL (L.drop i)).length=(L.length - i)*2:=by rw [encL_length,List.length_drop]
 have ma:∀j,j<c*2→(w.cell? ⟨G,j,none⟩).isSome=true:=fun j hj=>h.some_ hj
 have qa:∀ty dc sc,(Builtin.copy_ #[89,89] ty #[.slice (some ⟨G,(i+1)*2,none⟩) (L.length - i) dc,.slice (some ⟨G,i*2,none⟩) (L.length+1 - i) sc]).run Tryz.prog w.drew=.ok (goInt ((L.length - i:Nat):Int)) (w.drew.setCells G ((i+1)*2) (encL (L.drop i))):=fun ty dc sc =>
  run_copy2 w.drew 89 89 ty G ((i+1)*2) _ dc ⟨G,i*2,none⟩ _ sc (L.length - i) (encL (L.drop i)) Tryz.underlying89 (by simp only [Nat.min_def];split <;> omega) ja
   (fun j v hj=>by rw [Addr.add_lit];exact h.cells (by rw [←encL_drop,List.getElem?_drop] at hj;exact hj))
   (fun j hj=>ma _ (by omega)) (fun j hj=>h.frozen _) (encL_one _)
 obtain ⟨W1,hW1⟩:∃W1,W1=w.drew.setCells G ((i+1)*2) (encL (L.drop i)):=⟨_,rfl⟩
 have xa:∀(W:World),(∀x,W.cell? x=W1.cell? x)→(∀x,W.frozen? x=W1.frozen? x)→∀ty dc,(Builtin.copy_ #[89,89] ty #[.slice (some ⟨G,i*2,none⟩) (L.length+1 - i) dc,.slice (some ⟨vb,0,none⟩) 1 vc]).run Tryz.prog W=.ok (goInt ((1:Nat):Int)) (W.setCells G (i*2) (encL [x])):=fun W hWc hWf ty dc =>
  run_copy2 W 89 89 ty G (i*2) _ dc ⟨vb,0,none⟩ 1 vc 1 (encL [x]) Tryz.underlying89 (by simp only [Nat.min_def];split <;> omega) rfl
   (fun j v hj=>by
    rw [hWc,hW1,World.cell?_setCells_out _ _ _ _ _ (fun hb _=>absurd (by simpa [Addr.add_lit] using hb) hne)]
    exact cells_of_box hv j v hj)
   (fun j hj=>by rw [hWc,hW1];exact isSome_setCells G (encL (L.drop i)) ((i+1)*2) w.drew (fun t ht=>ma _ (by rw [ja] at ht;omega)) (i*2+j) (ma _ (by rw [encL_length] at hj;simp at hj;omega)))
   (fun j hj=>by rw [hWf,hW1,World.frozen?_setCells];exact h.frozen _) (encL_one _)
 rw [←hW1] at qa HF
 generalize hn:L.length=n at *
 generalize L.take i++x::L.drop i=K at *
 generalize encL [x]=cx at *
 have ga:¬((i:Int)=(n:Int)):=by omega
 have sa:((i:Int) == (n:Int))=false:=by simpa using ga
 have la:IntKind.i64.wrap ((i:Int)+1)=(i:Int)+1:=by rw [IntKind.wrap_i64];omega
 have ba:(0:Int)≤(i:Int)+1:=by omega
 have fa:i≤n:=by omega
 have kb:((i:Int)+1).toNat=i+1:=by omega
 have mb:¬(c=i+1):=by omega
 have jb:(i:Int)≤(n:Int)+1:=by omega
 have pb:¬(c=i):=by omega
 have HN:=Qa hn
 have HW:=Qa hW1
 clear hn hW1 h hv ja ma
 go_enter Tryz.func161,Tryz.ntmps161
 go_wp2_with (simp only [da])
 go_region_law (refine step_copy_run rfl _ _ 89 89 rfl _ _ (by simp [Act.eval,Act.put]) (by simp [Act.eval,Act.put]) (qa _ _ _) ?_)
 all_goals
  go_wp2_with (refine wpList_copy_run _ rfl (.tmp 80) (.tmp 81) 89 89 rfl _ _ rfl rfl (xa _ (fun _=>rfl) (fun _=>rfl) _ _) ?_)
  go_ret
  exact HF.out
theorem hx_of {L:List En} {x:En} {i:Nat} (hi:i=L.length):L.take i++x::L.drop i=L++[x]:=by subst hi;simp
theorem insE_end {w w':World} {lo c n g cap:Nat} {o:Option Nat} {L:List En} {x:En} (hn:n=L.length) (hown:w'.ownsRow lo 125 2 (.slice (some ⟨g,0,none⟩) (n+1) cap) (n+1) (encL L++encL [x]))
  (hgr:w.grownBy w' (Value.slice (Ao o) n c).ownBlock) (hat:(Value.slice (Ao o) n c).ownBlock=some g∨g=w.heap.size):InsE w lo o n (L++[x]) (.returned (.slice (some ⟨g,0,none⟩) (n+1) cap)) w':=by
 have ma:(Value.slice (Ao o) n c).ownBlock=o:=by cases o <;> rfl
 rw [ma] at hgr hat
 rw [←encL_append] at hown
 obtain ⟨h1,h2⟩:=ERow.of_owns hown (by simp [hn])
 exact ⟨g,cap,rfl,h1,h2,hat.imp id (fun e=>Nat.le_of_eq e.symm),hgr⟩
def Sl (w:World) (lo:Nat) (o:Option Nat) (c:Nat) (L:List En):Prop:=match o with|none=>L=[]∧c=0|some G=>lo≤G∧ERow w G c L
theorem Sl.owns {w:World} {lo c:Nat} {o:Option Nat} {L:List En} (h:Sl w lo o c L):w.ownsRow lo 125 2 (.slice (Ao o) L.length c) L.length (encL L):=by
 cases o with
 | none=>obtain ⟨rfl,rfl⟩:=h;exact World.ownsRow_nil _ _ _ _
 | some G=>exact h.2.owns h.1
theorem ins_end (c lo vb vc:Nat) (o:Option Nat) (L:List En) (x:En) (w:World) (hN:L.length≤1000000) (hlo:lo≤w.heap.size) (h:Sl w lo o c L) (hc:c≤maxLen) (hlc:L.length≤c) (hv:w.heap[vb]?=some (.cells #[.string x.1,.int .i64 x.2] 125 (0,0))) :
  Calls Tryz.prog 161 #[.slice (Ao o) L.length c,.int .i64 L.length,.slice (some ⟨vb,0,none⟩) 1 vc] w (InsE w lo o L.length (L++[x])):=by
 obtain ⟨i0,hi,hz0,hz1,hz2⟩:=info_parts info37
 have HO:=Qa h.owns
 have HX:=Qa (cells_of_box hv)
 have HF:=Qa (fun w' g cap a b d=>insE_end (w:=w) (w':=w') (lo:=lo) (c:=c) (g:=g) (cap:=cap) (o:=o) (L:=L) (x:=x) rfl a b d)
 have HL:=Qa (show (encL [x]).length=1*2 from rfl)
 have H1:=Qa (encL_one [x])
 generalize hn:L.length=n at *
 generalize L++[x]=K at *
 generalize encL L=cl at *
 generalize encL [x]=cx at *
 have qa:c≤9223372036854775807:=hc
 have ma:c=n∨¬(c=n):=by omega
 clear hn h hv hc
 go_enter Tryz.func161,Tryz.ntmps161
 rcases ma with rfl|ma
 all_goals
  cases o
  all_goals
   go_wp2_with (at_builtin;refine wpList_append_lies _ (by rfl) _ _ _ (by rfl) lo 125 i0 _ 2 24 Tryz.underlying89 hi hz0 hz1 hz2 (by rfl) (by decide) _ _ cl (by rfl) HO.out ⟨vb,0,none⟩ 1 vc cx (by rfl) HL.out HX.out H1.out (by omega) (by unfold maxLen;omega) (by omega) hlo _ rfl ?_;intro gg cap w3 hown1 hgrow hat hlt3)
   go_ret
   exact HF.out _ _ _ hown1 hgrow hat
abbrev Zv:Value:=.agg #[.string ByteArray.empty,.int .i64 0]
theorem zeroCells_size (n:Nat):(Builtin.zeroCells Zv.cells n).size=n*2:=by simp [Builtin.zeroCells];rfl
theorem grow_take {L:List En} {i c':Nat} {x:En} {Z:List Value} (hi:i≤L.length) (hZ:((encL (L.take i))++Z).length=c'*2) (hc:L.length+1≤c') :
  let X:=encL (L.take i)++Z
  let X1:=X.take (i*2)++encL [x]++X.drop (i*2+(encL [x]).length)
  (X1.take ((i+1)*2)++encL (L.drop i)++X1.drop ((i+1)*2+(encL (L.drop i)).length)).take ((L.length+1)*2)=encL (L.take i++x::L.drop i):=by
 intro X X1
 have hl:(encL (L.drop i)).length=(L.length - i)*2:=by rw [encL_length,List.length_drop]
 have ht:(encL (L.take i)).length=i*2:=by rw [encL_length,List.length_take,Nat.min_eq_left hi]
 have ma:X1=encL (L.take i)++encL [x]++X.drop (i*2+(encL [x]).length):=by
  show X.take (i*2)++_++_=_
  congr 2
  show (encL (L.take i)++Z).take (i*2)=_
  rw [List.take_append_of_le_length (by omega),List.take_of_length_le (by omega)]
 have h1:X1.take ((i+1)*2)=encL (L.take i)++encL [x]:=by
  rw [ma,List.take_append_of_le_length (by rw [List.length_append,ht,encL_length];simp;omega),List.take_of_length_le (by rw [List.length_append,ht,encL_length];simp;omega)]
 rw [h1,show L.take i++x::L.drop i=L.take i++[x]++L.drop i by simp,encL_append,encL_append,List.take_append_of_le_length,List.take_of_length_le]
 ·rw [List.length_append,List.length_append,hl,ht,encL_length];simp;omega
 ·rw [List.length_append,List.length_append,hl,ht,encL_length];simp;omega
theorem insE_grow {w:World} {c' lo i:Nat} {o:Option Nat} {L:List En} {x:En} {Z:List Value} (hi:i≤L.length) (hlo:lo≤w.heap.size) (hZ:((encL (L.take i))++Z).length=c'*2) (hc:L.length+1≤c') (hm:c'≤maxLen) :
  InsE w lo o L.length (L.take i++x::L.drop i) (.returned (.slice (some ⟨w.heap.size,0,none⟩) (L.length+1) c'))
   ((((w.alloc (.cells (encL (L.take i)++Z).toArray 125)).drew.setCells w.heap.size (i*2) (encL [x])).drew).setCells w.heap.size ((i+1)*2) (encL (L.drop i))):=by
 have hX:(w.alloc (.cells (encL (L.take i)++Z).toArray 125)).drew.heap[w.heap.size]?=some (.cells (encL (L.take i)++Z).toArray 125 (0,0)):=heap_alloc_new w _
 refine ⟨w.heap.size,c',rfl,?_,hlo,.inr (Nat.le_refl _),?_⟩
 ·rw [setCells_row hX (by rw [hZ,encL_length];simp;omega) (encL_one _)]
  have hs:=setRow_heap (w.alloc (.cells (encL (L.take i)++Z).toArray 125)).drew w.heap.size (encL (L.take i)++Z).toArray ((encL (L.take i)++Z).take (i*2)++encL [x]++(encL (L.take i)++Z).drop (i*2+(encL [x]).length)).toArray 125 _ hX
  have ma:((w.alloc (.cells (encL (L.take i)++Z).toArray 125)).drew.setRow w.heap.size ((encL (L.take i)++Z).take (i*2)++encL [x]++(encL (L.take i)++Z).drop (i*2+(encL [x]).length)).toArray).drew.heap[w.heap.size]?=some (.cells ((encL (L.take i)++Z).take (i*2)++encL [x]++(encL (L.take i)++Z).drop (i*2+(encL [x]).length)).toArray 125 (0,0)):=hs
  have qa:((encL (L.take i)++Z).take (i*2)++encL [x]++(encL (L.take i)++Z).drop (i*2+(encL [x]).length)).length=c'*2:=by
   rw [List.length_append,List.length_append,List.length_take,List.length_drop,hZ,encL_length];simp;omega
  rw [setCells_row ma (by rw [qa,encL_length,List.length_drop];omega) (encL_one _)]
  refine ⟨by simp;omega,hm,_,setRow_heap _ _ _ _ 125 _ ma,?_,?_⟩
  ·rw [List.length_append,List.length_append,List.length_take,List.length_drop,qa,encL_length,List.length_drop];omega
  ·have:=grow_take (x:=x) hi hZ hc
   have e:(L.take i++x::L.drop i).length=L.length+1:=by simp;omega
   rw [e]
   exact this
 ·refine grownBy_below ⟨?_,?_,?_,?_,?_⟩ _
  all_goals
   have a:=grownBy_sets w.heap.size (encL [x]) (i*2) (w.alloc (.cells (encL (L.take i)++Z).toArray 125)).drew
   have b:=grownBy_sets w.heap.size (encL (L.drop i)) ((i+1)*2) (((w.alloc (.cells (encL (L.take i)++Z).toArray 125)).drew.setCells w.heap.size (i*2) (encL [x])).drew)
   have d:=grownBy_trans (grownBy_trans a (grownBy_drew _ _)) b
   have hb:=below_alloc w (.cells (encL (L.take i)++Z).toArray 125)
  ·exact d.os.trans hb.os
  ·exact d.tape.trans hb.tape
  ·exact d.output.trans hb.output
  ·exact Nat.le_trans hb.size d.size
  ·intro k hk
   exact (d.block k (Nat.lt_of_lt_of_le hk hb.size) (fun e=>by injection e with e;omega)).trans (hb.block k hk)
theorem ins_grow (G c lo i vb vc:Nat) (L:List En) (x:En) (w:World) (hi:i<L.length) (hroom:L.length=c) (hN:L.length≤1000000) (hlo:lo≤w.heap.size) (h:ERow w G c L) (hv:w.heap[vb]?=some (.cells #[.string x.1,.int .i64 x.2] 125 (0,0))) (hne:vb≠G) :
  Calls Tryz.prog 161 #[.slice (some ⟨G,0,none⟩) L.length c,.int .i64 i,.slice (some ⟨vb,0,none⟩) 1 vc] w (InsE w lo (some G) L.length (L.take i++x::L.drop i)):=by
 obtain ⟨i0,hi0,hz0,hz1,hz2⟩:=info_parts info37
 have fb:=h.lt
 have kc:vb<w.heap.size:=(Array.getElem?_eq_some_iff.1 hv).1
 have da:(encL (L.take i)).length=i*2:=by rw [encL_length,List.length_take,Nat.min_eq_left (Nat.le_of_lt hi)]
 have ga:(encL (L.drop i)).length=(L.length - i)*2:=by rw [encL_length,List.length_drop]
 have jb:(L.length:Int)+1 - (i:Int)=((L.length+1 - i:Nat):Int):=by omega
 have qa:(Builtin.firstCells i0.size i (.slice (some ⟨G,0,none⟩) i c)).run Tryz.prog w.drew=.ok (encL (L.take i)).toArray w.drew:=by
  rw [hz1]
  exact run_firstCells_some w.drew 2 i ⟨G,0,none⟩ i c (encL (L.take i)) da (fun j v hj=>by
   rw [Addr.add_lit,Nat.zero_add]
   rw [←encL_take] at hj
   rw [List.getElem?_take] at hj
   split at hj
   ·exact h.cells hj
   ·cases hj)
 have ja:grownCap w (L.length+1) c 125=grownCap w (L.length+1) c 125:=rfl
 have sa:∀ty,(Builtin.append_ #[89,3] ty #[.slice (some ⟨G,0,none⟩) i c,.int .i64 ((L.length:Int)+1 - (i:Int))]).run Tryz.prog w =
   .ok (.slice (some ⟨w.heap.size,0,none⟩) (L.length+1) (grownCap w (L.length+1) c 125)) (w.drew.alloc (.cells ((encL (L.take i)).toArray++Builtin.zeroCells Zv.cells (L.length+1 - i)++Builtin.zeroCells Zv.cells (grownCap w (L.length+1) c 125 - (L.length+1))) 125)):=fun ty=>by
  have pb:i+(L.length+1 - i)=L.length+1:=by omega
  have h:=Lib.run_append_grow_zeros w 89 3 ty 125 i0 _ .i64 .i64 Tryz.underlying89 Tryz.underlying3 hi0 hz0 (some ⟨G,0,none⟩) i c (encL (L.take i)) qa (L.length+1 - i) (by omega) (by omega) (by omega) (by omega) (by rw [hz2];omega) (by rw [hz2,pb];exact growslice_fits (by omega) (by omega))
  rw [pb] at h
  rw [jb]
  exact h
 have mc:L.length+1≤grownCap w (L.length+1) c 125:=grownCap_ge w _ _ _
 have ma:=grownCap_le_maxLen w (L.length+1) c 125 (by unfold maxLen;omega)
 generalize grownCap w (L.length+1) c 125=C at *
 obtain ⟨Z,hZ⟩:∃Z:List Value,Z=(Builtin.zeroCells Zv.cells (L.length+1 - i)++Builtin.zeroCells Zv.cells (C - (L.length+1))).toList:=⟨_,rfl⟩
 have xa:(encL (L.take i)).toArray++Builtin.zeroCells Zv.cells (L.length+1 - i)++Builtin.zeroCells Zv.cells (C - (L.length+1))=(encL (L.take i)++Z).toArray:=by
  rw [hZ];simp
 have la:(encL (L.take i)++Z).length=C*2:=by
  rw [hZ,List.length_append,da]
  simp only [Array.length_toList,Array.size_append,zeroCells_size]
  omega
 rw [xa] at sa
 have HF:=Qa (insE_grow (w:=w) (o:=some G) (x:=x) (Nat.le_of_lt hi) hlo la mc ma)
 clear xa hZ qa
 generalize hR:(encL (L.take i)++Z).toArray=ROW at *
 have jc:ROW.size=C*2:=by rw [←hR];simpa using la
 obtain ⟨W1,hW1⟩:∃W1,W1=w.drew.alloc (.cells ROW 125):=⟨_,rfl⟩
 rw [←hW1] at sa
 have ya:∀j,j<C*2→(W1.cell? ⟨w.heap.size,j,none⟩).isSome=true:=fun j hj=>by
  rw [hW1,World.cell?_alloc_at (w:=w.drew) ROW _ w.heap.size j rfl,Array.getElem?_eq_getElem (by omega)];rfl
 have ba:∀j,W1.frozen? ⟨w.heap.size,j,none⟩=false:=fun j=>by rw [hW1];exact World.frozen?_alloc_at (w:=w.drew) ROW _ w.heap.size j rfl
 have xb:∀j v,w.cell? ⟨G,j,none⟩=some v→W1.cell? ⟨G,j,none⟩=some v:=fun j v h=>by rw [hW1,World.cell?_alloc_past (w:=w.drew) _ G j fb];exact h
 have yb:∀j v,w.cell? ⟨vb,j,none⟩=some v→W1.cell? ⟨vb,j,none⟩=some v:=fun j v h=>by rw [hW1,World.cell?_alloc_past (w:=w.drew) _ vb j kc];exact h
 have fa:∀(W:World),(∀x,W.cell? x=W1.cell? x)→(∀x,W.frozen? x=W1.frozen? x)→∀ty dc,(Builtin.copy_ #[89,89] ty #[.slice (some ⟨w.heap.size,i*2,none⟩) (L.length+1 - i) dc,.slice (some ⟨vb,0,none⟩) 1 vc]).run Tryz.prog W=.ok (goInt ((1:Nat):Int)) (W.setCells w.heap.size (i*2) (encL [x])):=fun W hWc hWf ty dc =>
  run_copy2 W 89 89 ty w.heap.size (i*2) _ dc ⟨vb,0,none⟩ 1 vc 1 (encL [x]) Tryz.underlying89 (by simp only [Nat.min_def];split <;> omega) rfl
   (fun j v hj=>by
    have:=cells_of_box hv j v hj
    rw [Addr.add_lit] at this ⊢
    rw [hWc];exact yb _ v this)
   (fun j hj=>by rw [hWc];exact ya _ (by rw [encL_length] at hj;simp at hj;omega)) (fun j hj=>by rw [hWf];exact ba _) (encL_one _)
 have pc:G≠w.heap.size:=by omega
 have kb:∀(W:World),(∀y,W.cell? y=(W1.setCells w.heap.size (i*2) (encL [x])).cell? y)→(∀y,W.frozen? y=(W1.setCells w.heap.size (i*2) (encL [x])).frozen? y)→∀ty dc sc,(Builtin.copy_ #[89,89] ty #[.slice (some ⟨w.heap.size,(i+1)*2,none⟩) (L.length - i) dc,.slice (some ⟨G,i*2,none⟩) (L.length - i) sc]).run Tryz.prog W=.ok (goInt ((L.length - i:Nat):Int)) (W.setCells w.heap.size ((i+1)*2) (encL (L.drop i))):=fun W hWc hWf ty dc sc =>
  run_copy2 W 89 89 ty w.heap.size ((i+1)*2) _ dc ⟨G,i*2,none⟩ _ sc (L.length - i) (encL (L.drop i)) Tryz.underlying89 (by simp) ga
   (fun j v hj=>by
    rw [Addr.add_lit,hWc,World.cell?_setCells_out _ _ _ _ _ (fun hb _=>absurd hb pc)]
    exact xb _ v (h.cells (by rw [←encL_drop,List.getElem?_drop] at hj;exact hj)))
   (fun j hj=>by rw [hWc];exact isSome_setCells w.heap.size (encL [x]) (i*2) W1 (fun t ht=>ya _ (by rw [encL_length] at ht;simp at ht;omega)) ((i+1)*2+j) (ya _ (by rw [ga] at hj;omega)))
   (fun j hj=>by rw [hWf,World.frozen?_setCells];exact ba _) (encL_one _)
 subst hW1
 have xc:∀y,((w.alloc (.cells ROW 125)).drew).cell? y=(w.drew.alloc (.cells ROW 125)).cell? y:=fun y=>rfl
 have yc:∀y,((w.alloc (.cells ROW 125)).drew).frozen? y=(w.drew.alloc (.cells ROW 125)).frozen? y:=fun y=>rfl
 have bc:∀y,(((w.alloc (.cells ROW 125)).drew.setCells w.heap.size (i*2) (encL [x])).drew).cell? y=((w.drew.alloc (.cells ROW 125)).setCells w.heap.size (i*2) (encL [x])).cell? y:=fun y=>rfl
 have fc:∀y,(((w.alloc (.cells ROW 125)).drew.setCells w.heap.size (i*2) (encL [x])).drew).frozen? y=((w.drew.alloc (.cells ROW 125)).setCells w.heap.size (i*2) (encL [x])).frozen? y:=fun y=>rfl
 generalize hn:L.length=n at *
 generalize L.take i++x::L.drop i=K at *
 generalize encL [x]=cx at *
 generalize encL (L.drop i)=cd at *
 have mb:¬((i:Int)=(n:Int)):=by omega
 have jd:((i:Int) == (n:Int))=false:=by simpa using mb
 have yd:(c:Int)<(n:Int)+1:=by omega
 have vd:IntKind.i64.wrap ((i:Int)+1)=(i:Int)+1:=by rw [IntKind.wrap_i64];omega
 have gd:(0:Int)≤(i:Int)+1:=by omega
 have sd:i≤n:=by omega
 have ld:((i:Int)+1).toNat=i+1:=by omega
 have td:(i:Int)≤(n:Int):=by omega
 have rb:C≤9223372036854775807:=ma
 have fd:¬(C=i):=by omega
 have qd:¬(C=i+1):=by omega
 have ke:¬(c=i):=by omega
 have me:i≤c:=by omega
 have HN:=Qa hn
 have HC:=Qa hroom
 clear hn hroom h hv ga da jb ja la jc hR ya ba xb yb hz0 ma
 go_enter Tryz.func161,Tryz.ntmps161
 go_wp2_with (first
  | (at_builtin;refine Lib.wpList_append_run _ rfl _ _ _ _ rfl _ _ rfl rfl _ _ (sa _) ?_)
  | (refine wpList_copy_run _ rfl (.tmp 43) (.tmp 44) 89 89 rfl _ _ rfl rfl (fa _ xc yc _ _) ?_))
 go_region_law (refine step_copy_run rfl _ _ 89 89 rfl (.slice (some ⟨w.heap.size,(i+1)*2,none⟩) (n - i) (C - (i+1))) (.slice (some ⟨G,i*2,none⟩) (n - i) (c - i)) (by simp [Act.eval,Act.put]) (by simp [Act.eval,Act.put]) (kb _ bc fc 3 (C - (i+1)) (c - i)) ?_)
 all_goals
  go_wp2_with fail
  go_ret
  exact HF.out
theorem ins_any (c lo i vb vc:Nat) (o:Option Nat) (L:List En) (x:En) (w:World) (hi:i≤L.length) (hN:L.length≤1000000) (hlo:lo≤w.heap.size) (h:Sl w lo o c L) (hv:w.heap[vb]?=some (.cells #[.string x.1,.int .i64 x.2] 125 (0,0))) (hne:o≠some vb) :
  Calls Tryz.prog 161 #[.slice (Ao o) L.length c,.int .i64 i,.slice (some ⟨vb,0,none⟩) 1 vc] w (InsE w lo o L.length (L.take i++x::L.drop i)):=by
 have hc:L.length≤c∧c≤maxLen:=by
  cases o with
  | none=>obtain ⟨rfl,rfl⟩:=h;exact ⟨Nat.le_refl _,by unfold maxLen;omega⟩
  | some G=>exact ⟨h.2.1,h.2.2.1⟩
 by_cases he:i=L.length
 ·rw [hx_of he]
  subst he
  exact ins_end c lo vb vc o L x w hN hlo h hc.2 hc.1 hv
 ·cases o with
  | none=>obtain ⟨rfl,rfl⟩:=h;simp at hi he;omega
  | some G =>
   have hG:vb≠G:=fun e=>hne (by rw [e])
   by_cases hr:L.length+1≤c
   ·exact ins_room G c lo i vb vc L x w (by omega) hr hN h.1 h.2 hv hG
   ·exact ins_grow G c lo i vb vc L x w (by omega) (by omega) hN hlo h.2 hv hG
end dn
end Go.Proofs.YtgoddboicjfkcaaGreat
