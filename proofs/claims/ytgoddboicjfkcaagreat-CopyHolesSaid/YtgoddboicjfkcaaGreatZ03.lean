/- Part 3 of what is known of the program's functions and of the document's words: contracts, and the mathematics beneath them. -/
import Derived.Test.YtgoddboicjfkcaaGreatProg
import Derived.Test.YtgoddboicjfkcaaGreatZ00
import Derived.Test.YtgoddboicjfkcaaGreatZ02
import Derived.Laws.Runes
import Derived.Laws.RangeAny
import Derived.Lib.OthersKept
import Derived.Test.YtgoddboicjfkcaaGreatZ01
set_option linter.unusedVariables false
set_option linter.unusedSimpArgs false
set_option maxRecDepth 100000
set_option maxHeartbeats 8000000
namespace Go.Proofs.YtgoddboicjfkcaaGreat.dn
open Go.RowKit
theorem encode_form (r:Int) (hv:Utf8.valid r=true) (h128:128≤r) :
  (∃ a b:UInt8,Utf8.encode r=⟨#[a,b]⟩∧128≤b.toNat)∨(∃ a b c:UInt8,Utf8.encode r=⟨#[a,b,c]⟩)∨∃ a b c d:UInt8,Utf8.encode r=⟨#[a,b,c,d]⟩:=by
 have hc:¬ r.toNat<128:=by omega
 unfold Utf8.encode
 simp only [hv,if_true,hc,if_false]
 split
 ·exact .inl ⟨_,_,rfl,by simp;omega⟩
 ·split
  ·exact .inr (.inl ⟨_,_,_,rfl⟩)
  ·exact .inr (.inr ⟨_,_,_,_,rfl⟩)
theorem none_ext (c:Int) (w:World):Calls Tryz.prog 244 #[.string ((⟨#[0,47]⟩:ByteArray).extract 2 2),.int .u8 c] w fun e w'=>e=.returned (.int .i64 (-1))∧w'=w :=
 (Tryz.strings_IndexByte _ c w).mono fun e w' ⟨he,hw⟩=>⟨by rw [he];rfl,hw⟩
theorem none_nil (c:Int) (w:World):Calls Tryz.prog 244 #[.string ⟨#[]⟩,.int .u8 c] w fun e w'=>e=.returned (.int .i64 (-1))∧w'=w :=
 (Tryz.strings_IndexByte ⟨#[]⟩ c w).mono fun e w' ⟨he,hw⟩=>⟨by rw [he];rfl,hw⟩
def NotThere (w:World) (e:Ending) (w':World):Prop:=e=.returned (.int .i64 (-1))∧Below w.heap.size w w'
theorem valid_lib (r:Int):Lib.validRune r=Utf8.valid r:=(validRune_eq r).symm
theorem quiet_add_same' {P:Program} {f:FuncId} {args:Array Value} {w:World} {a n:Nat} {v:Value}
  (h:Calls P f args (w.drewN (a+n)) fun e w'=>e=.returned v∧w'=w.drewN (a+n)):Calls P f args (w.drewN (a+n)) fun e w''=>e=.returned v∧∃ m,w''=w.drewN (a+m) :=
 h.mono fun _ _ ⟨he,hm⟩=>⟨he,n,hm⟩
theorem valid_any (r:Int) (b:Bool) (w:World) (hv:Lib.validRune r=b):Calls Tryz.prog 245 #[.int .i32 r] w fun e w'=>e=.returned (.bool b)∧w=w' :=
 (Tryz.utf8_ValidRune r w).mono fun e w' ⟨he,hw⟩=>⟨by rw [he,hv],hw.symm⟩
theorem rune_bad (r:Int) (w:World) (h128:128≤r) (hv:Lib.validRune r=false) (hr:¬ r=65533):Calls Tryz.prog 231 #[.string ⟨#[0,47]⟩,.int .i32 r] w (NotThere w):=by
 have hrB:(r == 65533)=false:=beq_eq_false_iff_ne.2 hr
 have HV:=Lib.hid (fun w=>valid_any r false w hv)
 clear hv hr
 go_enter Tryz.func231,Tryz.ntmps231
 go_wp2_with (go_at_call 245;refine (HV.out _).mono ?_;rintro e w' ⟨rfl,rfl⟩)
 go_ret
 exact ⟨rfl,Below.refl _ _⟩
theorem rune_good (r:Int) (w:World) (h128:128≤r) (hv:Lib.validRune r=true) (hr:¬ r=65533):Calls Tryz.prog 231 #[.string ⟨#[0,47]⟩,.int .i32 r] w (NotThere w):=by
 have hrB:(r == 65533)=false:=beq_eq_false_iff_ne.2 hr
 have HV:=Lib.hid (fun w=>valid_any r true w hv)
 have HF:=Lib.hid (encode_form r (by rw [← valid_lib];exact hv) h128)
 clear hv hr
 rcases HF.out with ⟨a,b,he,hb⟩|⟨a,b,c,he⟩|⟨a,b,c,d,he⟩
 ·have hbI:(128:Int)≤(b.toNat:Int):=by omega
  have hne:((47:Int) != (b.toNat:Int))=true:=by rw [bne_iff_ne];omega
  have hne2:((((⟨#[0,47]⟩:ByteArray)[1]'(by show 1<2;decide)).toNat:Int) != (((⟨#[a,b]⟩:ByteArray)[1]'(by show 1<2;decide)).toNat:Int))=true:=hne
  clear HF hb
  go_enter Tryz.func231,Tryz.ntmps231
  go_wp2_with (go_at_call 245;refine (HV.out _).mono ?_;rintro e w' ⟨rfl,rfl⟩)
  go_step3
  go_wp2_with fail
  refine wp_loop_rounds 1 ?_
  rw [rounds_succ]
  go_wp2_with fail
  go_step3
  go_wp2_with fail
  go_quiet (fail)
  go_wp2_with fail
  have hw2:IntKind.i64.wrap 2=2:=by decide
  go_quiet ((go_at_call 244;first|exact quiet_add_same' (none_nil _ _)|exact quiet_add_same' (none_ext _ _)))
  go_wp2_with fail
  try rw [Exit.noGoto_ret]
  go_ret
  exact ⟨rfl,below_drewN (Below.refl _ _) _⟩
 ·clear HF
  go_enter Tryz.func231,Tryz.ntmps231
  go_wp2_with (go_at_call 245;refine (HV.out _).mono ?_;rintro e w' ⟨rfl,rfl⟩)
  go_step3
  go_wp2_with fail
  refine wp_loop_rounds 1 ?_
  rw [rounds_succ]
  go_wp2_with fail
  try rw [Exit.noGoto_ret]
  go_ret
  exact ⟨rfl,Below.refl _ _⟩
 ·clear HF
  go_enter Tryz.func231,Tryz.ntmps231
  go_wp2_with (go_at_call 245;refine (HV.out _).mono ?_;rintro e w' ⟨rfl,rfl⟩)
  go_step3
  go_wp2_with fail
  refine wp_loop_rounds 1 ?_
  rw [rounds_succ]
  go_wp2_with fail
  try rw [Exit.noGoto_ret]
  go_ret
  exact ⟨rfl,Below.refl _ _⟩
theorem rune_err (w:World):Calls Tryz.prog 231 #[.string ⟨#[0,47]⟩,.int .i32 65533] w (NotThere w):=by
 have n0:=fun ty=>run_next_ascii (P:=Tryz.prog) w ⟨#[0,47]⟩ 0 ty (by show 0<2;decide) (by show (0:UInt8).toNat<128;decide)
 have n1:=fun ty=>run_next_ascii (P:=Tryz.prog) w ⟨#[0,47]⟩ 1 ty (by show 1<2;decide) (by show (47:UInt8).toNat<128;decide)
 have n2:=fun ty=>run_next_end (P:=Tryz.prog) w ⟨#[0,47]⟩ 2 ty (by show ¬ 2<2;decide)
 have m0:(((⟨#[0,47]⟩:ByteArray)[0]'(by show 0<2;decide)).toNat:Int)=0:=rfl
 have m1:(((⟨#[0,47]⟩:ByteArray)[1]'(by show 1<2;decide)).toNat:Int)=47:=rfl
 rw [m0] at n0
 rw [m1] at n1
 clear m0 m1
 go_enter Tryz.func231,Tryz.ntmps231
 go_wp2_with fail
 refine wp_loop_rounds 3 ?_
 rw [rounds_succ]
 go_wp2_with fail
 rw [rounds_succ]
 go_wp2_with fail
 rw [rounds_succ]
 go_wp2_with fail
 try rw [Exit.noGoto_ret]
 go_ret
 exact ⟨rfl,(Below.refl _ _).alloc (Nat.le_refl _) _⟩
theorem rune_high (r:Int) (w:World) (h128:128≤r):Calls Tryz.prog 231 #[.string ⟨#[0,47]⟩,.int .i32 r] w (NotThere w):=by
 by_cases hr:r=65533
 ·subst hr
  exact rune_err w
 ·cases hv:Lib.validRune r
  ·exact rune_bad r w h128 hv hr
  ·exact rune_good r w h128 hv hr
theorem decode_span (s:ByteArray) (pos:Nat) (h:pos<s.size) (ha:128≤(s[pos]'h).toNat):∀ k,k<(Utf8.decode s pos).2→pos+k<s.size∧128≤(s.get! (pos+k)).toNat:=by
 have e0:=get_at s pos h
 have h0:pos+0<s.size∧128≤(s.get! (pos+0)).toNat:=⟨by omega,by rw [e0];exact ha⟩
 have hn:¬ (s[pos]'h).toNat<128:=by omega
 intro k
 simp only [Utf8.decode,e0,hn,if_false]
 have hk0:k<1→pos+k<s.size∧128≤(s.get! (pos+k)).toNat:=fun hk=>by
  have:k=0:=by omega
  subst this
  exact h0
 have hc:∀ i:Nat,(decide (pos+i<s.size) && (s.get! (pos+i)).toNat / 64 == 2)=true→pos+i<s.size∧128≤(s.get! (pos+i)).toNat:=fun i hi=>by
  simp only [Bool.and_eq_true,decide_eq_true_eq,beq_iff_eq] at hi
  exact ⟨hi.1,by omega⟩
 split
 ·rename_i h2
  simp only [Bool.and_eq_true] at h2
  have c1:=hc 1 (by simp only [Bool.and_eq_true];exact h2.2)
  split
  ·intro hk
   rcases (show k=0∨k=1 by simp at hk;omega) with rfl|rfl
   ·exact h0
   ·exact c1
  ·exact fun hk=>hk0 hk
 ·split
  ·rename_i h2
   simp only [Bool.and_eq_true] at h2
   have c1:=hc 1 (by simp only [Bool.and_eq_true];exact h2.1.2)
   have c2:=hc 2 (by simp only [Bool.and_eq_true];exact h2.2)
   split
   ·intro hk
    rcases (show k=0∨k=1∨k=2 by simp at hk;omega) with rfl|rfl|rfl
    ·exact h0
    ·exact c1
    ·exact c2
   ·exact fun hk=>hk0 hk
  ·split
   ·rename_i h2
    simp only [Bool.and_eq_true] at h2
    have c1:=hc 1 (by simp only [Bool.and_eq_true];exact h2.1.1.2)
    have c2:=hc 2 (by simp only [Bool.and_eq_true];exact h2.1.2)
    have c3:=hc 3 (by simp only [Bool.and_eq_true];exact h2.2)
    split
    ·intro hk
     rcases (show k=0∨k=1∨k=2∨k=3 by simp at hk;omega) with rfl|rfl|rfl|rfl
     ·exact h0
     ·exact c1
     ·exact c2
     ·exact c3
    ·exact fun hk=>hk0 hk
   ·exact fun hk=>hk0 hk
theorem below_iterAt {B:Nat} {a w:World} (h:Below B a w) {k:Nat} (hk:B≤k) (s:ByteArray) (p:Nat):Below B a (w.iterAt k s p) :=
 h.trans ⟨rfl,rfl,rfl,by simp [World.iterAt],fun i hi=>by simp only [World.iterAt];rw [Array.getElem?_setIfInBounds_ne (by omega)]⟩
theorem noAny_span (s:ByteArray) (pos:Nat) (h:pos<s.size) (ha:128≤(s[pos]'h).toNat) (hno:Lib.NoAny s.data.toList [0,47] pos) :
  ∀ k,k≤(Utf8.decode s pos).2→pos+k≤s.size∧Lib.NoAny s.data.toList [0,47] (pos+k):=by
 intro k
 induction k with
 | zero=>exact fun _=>⟨by omega,hno⟩
 | succ k ih =>
  intro hk
  obtain ⟨_,h1⟩:=ih (by omega)
  obtain ⟨h2,h3⟩:=decode_span s pos h ha k (by omega)
  have e:=get_at s (pos+k) h2
  rw [Nat.add_zero] at e
  rw [e] at h3
  refine ⟨by omega,h1.succ (x:=s[pos+k]'h2) (Lib.data_getElem? s (pos+k) h2) ?_⟩
  rw [Bool.eq_false_iff]
  intro hc
  simp at hc
  rcases hc with hc|hc <;> rw [hc] at h3 <;> exact absurd h3 (by decide)
def AnyE (w:World) (v:Int) (e:Ending) (w':World):Prop:=e=.returned (.int .i64 v)∧Below w.heap.size w w'
theorem any_short (s:ByteArray) (w:World) (h8:s.size≤8):Calls Tryz.prog 220 #[.string s,.string ⟨#[0,47]⟩] w (AnyE w (Lib.indexAny s.data.toList [0,47])):=by
 have h8z:decide ((8:Int)<(s.size:Int))=false:=decide_eq_false (by omega)
 go_enter Tryz.func220,Tryz.ntmps220
 go_wp2_with (go_at_call 232;refine (Tryz.strings_shouldUseASCIISet _ _).mono ?_;rintro e w' ⟨rfl,hw⟩;rw [hw,h8z])
 go_loopg [9,10] s.size (fun g _ _ wx=>∃ i:Nat,i≤s.size∧g+i=s.size∧wx.heap[w.heap.size]?=some (.stringIter s i)∧Below w.heap.size w wx∧Hid (Lib.NoAny s.data.toList [0,47] i))
 case atStart=>exact ⟨0,by omega,by omega,World.iter_heap w s 0,(Below.refl _ _).alloc (Nat.le_refl _) _,Lib.NoAny.zero _ _⟩
 case round =>
  obtain ⟨i,hi,hg,hk,hb,HN⟩:=hrel
  have hklt:w.heap.size<wr.heap.size:=(Array.getElem?_eq_some_iff.1 hk).1
  by_cases hlt:i<s.size
  ·have hnx:=fun ty=>Lib.run_next_any_at (P:=Tryz.prog) wr w.heap.size s i ty hk hlt
   have HI:=Lib.hid (fun p=>Lib.iterAt_heap wr w.heap.size s i p hk)
   have HB:=Lib.hid (fun p=>below_iterAt hb (Nat.le_refl _) s p)
   have HS:=Lib.hid (show ∀ p,(wr.iterAt w.heap.size s p).heap.size=wr.heap.size from fun p=>by simp [World.iterAt])
   have Hx:=Lib.hid (Lib.data_getElem? s i hlt)
   by_cases ha:(s[i]'hlt).toNat<128
   ·rw [decode_ascii s i hlt ha] at hnx
    obtain ⟨x,hx⟩:∃ x:UInt8,s[i]'hlt=x:=⟨_,rfl⟩
    rw [hx] at hnx ha
    have Hx2:=Lib.hid (show s.data.toList[i]?=some x by rw [Hx.out,hx])
    have hcon:=Lib.contains_iff_indexByte [0,47] x
    have hback:((x.toNat:Int)).toNat.toUInt8=x:=by simp
    clear hx Hx
    cases hin:([0,47]:List UInt8).contains x
    ·rw [hin] at hcon
     have hn1:Lib.indexByte [0,47] x<0:=by have:=of_decide_eq_false hcon.symm;omega
     clear hcon
     go_wp2_with (go_at_call 231;refine (Tryz.strings_IndexRune_ascii _ _ _ (by omega) (by omega)).mono ?_;rintro e w' ⟨rfl,hw⟩;rw [hw,hback])
     go_roundg (gk - 1)
     case measure=>omega
     case rel =>
      exact ⟨i+1,by omega,by omega,HI.out _,HB.out _,Lib.hid (HN.out.succ Hx2.out hin)⟩
    ·rw [hin] at hcon
     have hn1:¬ Lib.indexByte [0,47] x<0:=by have:=of_decide_eq_true hcon.symm;omega
     have hn2:0≤Lib.indexByte [0,47] x:=by omega
     clear hcon
     have HR:=Lib.hid (Lib.indexAny_hit HN.out Hx2.out hin)
     go_wp2_with (go_at_call 231;refine (Tryz.strings_IndexRune_ascii _ _ _ (by omega) (by omega)).mono ?_;rintro e w' ⟨rfl,hw⟩;rw [hw,hback])
     go_ret
     exact ⟨by rw [HR.out];rfl,HB.out _⟩
   ·have hspan:=Lib.hid (noAny_span s i hlt (by omega) HN.out (Utf8.decode s i).2 (Nat.le_refl _))
    have hdh:=decode_high s i hlt (by omega)
    have hdl:=decode_le s i
    clear Hx
    generalize Utf8.decode s i=p at *
    obtain ⟨r,n⟩:=p
    simp only at hnx hspan hdh hdl
    have hn1:1≤n:=hdh.2
    have hr1:128≤r:=hdh.1
    clear hdh ha
    go_wp2_with (go_at_call 231;refine (rune_high _ _ (by omega)).mono ?_;rintro e w5 ⟨rfl,hb5⟩)
    go_roundg (gk - n)
    case measure=>have:=hspan.out.1;omega
    case rel =>
     refine ⟨i+n,hspan.out.1,by have:=hspan.out.1;omega,?_,(HB.out _).trans (hb5.mono (by rw [HS.out];omega)),Lib.hid hspan.out.2⟩
     rw [hb5.block _ (by rw [HS.out];exact hklt)]
     exact HI.out _
  ·have hie:i=s.size:=by omega
   have hnx:=fun ty=>Lib.run_next_end_at (P:=Tryz.prog) wr w.heap.size s i ty hk hlt
   have HR:=Lib.hid (Lib.indexAny_none (s:=s.data.toList) (chars:=[0,47]) (by rw [← Lib.size_eq,← hie];exact HN.out))
   clear hie
   go_wp2_with fail
   go_ret
   exact ⟨by rw [HR.out];rfl,hb⟩
theorem info66:(Tryz.prog.info? 313).map (fun i=>(i.zero,i.size))=some (some (.agg (Array.replicate 256 (.bool false))),256):=by kernel_rfl
theorem any_any (s:ByteArray) (w:World) (hs:s.size≤60):Calls Tryz.prog 220 #[.string s,.string ⟨#[0,47]⟩] w (AnyE w (Lib.indexAny s.data.toList [0,47])):=by
 by_cases h8:s.size≤8
 ·exact any_short s w h8
 ·refine (Tryz.strings_IndexAny_long (zero_of_info info66).1 s ⟨#[0,47]⟩ w (by decide) (by omega) (by omega) (by decide) ?_).mono ?_
  ·intro j b hj
   match j,hj with
   | 0,hj=>simp at hj;subst hj;decide
   | 1,hj=>simp at hj;subst hj;decide
  ·rintro e w' ⟨he,hw⟩
   exact ⟨he,by rw [hw];exact ((Below.refl _ _).alloc (Nat.le_refl _) _).alloc (by simp) _⟩
theorem indexAny_iff (L:Bs):(0≤Lib.indexAny L [0,47])↔((0:UInt8)∈L∨(47:UInt8)∈L):=by
 induction L with
 | nil=>simp [Lib.indexAny]
 | cons b l ih =>
  unfold Lib.indexAny
  by_cases hb:b=0∨b=47
  ·have hc:([0,47]:List UInt8).contains b=true:=by rcases hb with rfl|rfl <;> decide
   rw [if_pos hc]
   refine ⟨fun _=>?_,fun _=>Int.le_refl _⟩
   rcases hb with rfl|rfl
   ·exact .inl (by simp)
   ·exact .inr (by simp)
  ·have hc:([0,47]:List UInt8).contains b=false:=by
    rw [Bool.eq_false_iff]
    intro h
    simp at h
    exact hb h
   rw [hc,if_neg (by decide)]
   have hge:=Lib.indexAny_ge [0,47] l
   have h1:(0:UInt8)≠b:=fun e=>hb (.inl e.symm)
   have h2:(47:UInt8)≠b:=fun e=>hb (.inr e.symm)
   rw [List.mem_cons,List.mem_cons]
   simp only [h1,h2,false_or]
   rw [← ih]
   split
   ·rename_i h
    rw [beq_iff_eq] at h
    omega
   ·rename_i h
    rw [beq_iff_eq] at h
    omega
def nerr (L:Bs):Int:=if L=[] then 2 else if 60<L.length then 36 else if (0:UInt8)∈L∨(47:UInt8)∈L then 22 else 0
def NameE (w:World) (L:Bs) (e:Ending) (w':World):Prop:=e=.returned (.int .i64 (nerr L))∧Below w.heap.size w w'
theorem has_any (s:ByteArray) (w:World) (hs:s.size≤60) (b:Bool) (hb:decide (0≤Lib.indexAny s.data.toList [0,47])=b):Calls Tryz.prog 183 #[.string s,.string ⟨#[0,47]⟩] w fun e w'=>e=.returned (.bool b)∧Below w.heap.size w w':=by
 have HA:=any_any s w hs
 generalize Lib.indexAny s.data.toList [0,47]=n at *
 go_enter Tryz.func183,Tryz.ntmps183
 go_wp2_with (go_at_call 220;refine HA.mono ?_;rintro e w' ⟨rfl,hw⟩)
 go_ret
 exact ⟨by rw [← hb];rfl,hw⟩
theorem name_any (s:ByteArray) (w:World) (hm:s.size≤9223372036854775807):Calls Tryz.prog 136 #[.string s] w (NameE w s.data.toList):=by
 by_cases h0:s.data.toList=[]
 ·have e:s=⟨#[]⟩:=by rw [← Lib.mk_data s,h0]
  subst e
  go_enter Tryz.func136,Tryz.ntmps136
  go_wp2
  go_ret
  exact ⟨rfl,Below.refl _ _⟩
 ·have hne:s.toList.isEmpty=false:=by
   rw [Lib.toList_data]
   cases h':s.data.toList with
   | nil=>exact absurd h' h0
   | cons _ _=>rfl
  by_cases h60:60<s.size
  ·have HR:=Lib.hid (show nerr s.data.toList=36 by unfold nerr;rw [if_neg h0,if_pos (by rw [← Lib.size_eq];exact h60)])
   clear h0
   go_enter Tryz.func136,Tryz.ntmps136
   go_wp2
   go_ret
   exact ⟨by rw [HR.out];rfl,Below.refl _ _⟩
  ·by_cases hbad:(0:UInt8)∈s.data.toList∨(47:UInt8)∈s.data.toList
   ·have HR:=Lib.hid (show nerr s.data.toList=22 by unfold nerr;rw [if_neg h0,if_neg (by rw [← Lib.size_eq];exact h60),if_pos hbad])
    have HC:=has_any s w (by omega) true (decide_eq_true ((indexAny_iff _).2 hbad))
    clear h0 hbad
    go_enter Tryz.func136,Tryz.ntmps136
    go_wp2_with (go_at_call 183;refine HC.mono ?_;rintro e w' ⟨rfl,hw⟩)
    go_ret
    exact ⟨by rw [HR.out];rfl,hw⟩
   ·have HR:=Lib.hid (show nerr s.data.toList=0 by unfold nerr;rw [if_neg h0,if_neg (by rw [← Lib.size_eq];exact h60),if_neg hbad])
    have HC:=has_any s w (by omega) false (decide_eq_false (fun h=>hbad ((indexAny_iff _).1 h)))
    clear h0 hbad
    go_enter Tryz.func136,Tryz.ntmps136
    go_wp2_with (go_at_call 183;refine HC.mono ?_;rintro e w' ⟨rfl,hw⟩)
    go_ret
    exact ⟨by rw [HR.out];rfl,hw⟩
end Go.Proofs.YtgoddboicjfkcaaGreat.dn
namespace Go.Proofs.YtgoddboicjfkcaaGreat.dn
open Go.RowKit Go.Shelf
structure Fr (w w':World) (Q:Nat) (o:Option Nat):Prop where
 os:w'.os=w.os
 tape:w'.tape=w.tape
 output:w'.output=w.output
 size:w.heap.size≤w'.heap.size
 block:∀ k,k<w.heap.size→k≠Q→o≠some k→w'.heap[k]?=w.heap[k]?
theorem Fr.grown {w w':World} {Q:Nat} {o:Option Nat} (h:w.grownBy w' o):Fr w w' Q o:=⟨h.os,h.tape,h.output,h.size,fun k hk _ ho=>h.block k hk (fun e=>ho e.symm)⟩
theorem Fr.setQ (w:World) (Q:Nat) (o:Option Nat) (v:Value):Fr w (w.setCell ⟨Q,0,none⟩ v) Q o :=
 ⟨rfl,rfl,rfl,by simp [World.setCell],fun k _ hQ _=>by rw [Below.heap_setCell _ _ _ _ (fun e=>hQ e)]⟩
theorem Fr.trans {w w1 w2:World} {Q:Nat} {o o1:Option Nat} (h:Fr w w1 Q o) (h':Fr w1 w2 Q o1) (ho:∀ k,o1=some k→o=some k∨w.heap.size≤k):Fr w w2 Q o :=
 ⟨h'.os.trans h.os,h'.tape.trans h.tape,h'.output.trans h.output,Nat.le_trans h.size h'.size,fun k hk hQ hk2 =>
  (h'.block k (Nat.lt_of_lt_of_le hk h.size) hQ (fun e=>by rcases ho k e with e|e;exact hk2 e;omega)).trans (h.block k hk hQ hk2)⟩
theorem Fr.below {w w':World} {Q:Nat} {o:Option Nat} (h:Below w.heap.size w w'):Fr w w' Q o:=⟨h.os,h.tape,h.output,h.size,fun k hk _ _=>h.block k hk⟩
def StepE (w:World) (D lo:Nat) (o:Option Nat) (v:Value) (L:List En) (e:Ending) (w':World):Prop :=
 e=.returned v∧∃ o' c',Du w' D lo o' c' L∧(∀ G,o'=some G→o=some G∨w.heap.size≤G)∧Fr w w' D o
theorem stepE_same {w w':World} {D lo c:Nat} {o:Option Nat} {v:Value} {L:List En} (h:Du w D lo o c L) (hb:Below w.heap.size w w'):StepE w D lo o v L (.returned v) w' :=
 ⟨rfl,o,c,h.below hb,fun G e=>.inl e,Fr.below hb⟩
theorem new_any (w:World) (lo:Nat) (hlo:lo≤w.heap.size):Calls Tryz.prog 156 #[] w (fun e w'=>e=.returned (Pq w.heap.size)∧Du w' w.heap.size lo none 0 []∧Below w.heap.size w w'):=by
 have HQ:=Lib.hid (show Du (w.alloc (.cells #[.slice none 0 0] 239)) w.heap.size lo none 0 [] from ⟨by simp,by simp,⟨rfl,rfl⟩⟩)
 go_enter Tryz.func156,Tryz.ntmps156
 go_wp2_with fail
 go_ret
 exact ⟨rfl,HQ.out,below_alloc _ _⟩
def dotB (s:ByteArray):Bool:=s.toList == [46] || s.toList == [46,46]
def serr (s:ByteArray) (v:Int):Int:=if nerr s.data.toList≠0 then nerr s.data.toList else if dotB s=true∨v<1 then 22 else 0
def lsetE (s:ByteArray) (v:Int) (L:List En):List En:=if serr s v=0 then lset s v L else L
theorem ERow.setNum {w:World} {G c:Nat} {L:List En} {i:Nat} {x:En} (h:ERow w G c L) (hx:L[i]?=some x) (v:Int):ERow (w.setCell ⟨G,i*2+1,none⟩ (.int .i64 v)) G c (L.set i (x.1,v)):=by
 have hi:i<L.length:=(List.getElem?_eq_some_iff.1 hx).1
 have h1:=h.1
 refine ERow.sets (vs:=[.int .i64 v]) (o:=i*2+1) h (by simp;omega) (by intro v hv;simp at hv;subst hv;rfl) (by simpa using h1) fun X hl ht=>?_
 rw [List.length_set]
 have hxs:L[i]=x:=by rw [List.getElem?_eq_getElem hi] at hx;simpa using hx
 rw [List.set_eq_take_append_cons_drop,if_pos hi,show L.take i++(x.1,v)::L.drop (i+1)=L.take i++[(x.1,v)]++L.drop (i+1) by simp,encL_append,encL_append,← encL_take,← encL_drop,← ht]
 have hXi:X[i*2]?=some (.string x.1):=by
  have:=(encL_at hx).1
  rw [← ht,List.getElem?_take_of_lt (by omega)] at this
  exact this
 have hX2:i*2<X.length:=by omega
 rw [List.take_take,Nat.min_eq_left (by omega)]
 apply List.ext_getElem?
 intro j
 simp only [List.getElem?_take,List.getElem?_append,List.length_take,List.length_append,List.getElem?_drop,List.length_cons,List.length_nil,encL_single,hl]
 by_cases h1:j<i*2
 ·rw [if_pos (show j<L.length*2 by omega),if_pos (by omega),if_pos (by omega),if_pos (by omega),if_pos (by omega),if_pos (by omega),if_pos (by omega)]
 ·by_cases h2:j=i*2
  ·subst h2
   rw [if_pos (show i*2<L.length*2 by omega),if_pos (by omega),if_pos (by omega),if_pos (by omega),if_pos (by omega),if_neg (by omega),hXi]
   rw [show i*2 - min (i*2) (c*2)=0 by omega];rfl
  ·by_cases h3:j=i*2+1
   ·subst h3
    rw [if_pos (show i*2+1<L.length*2 by omega),if_pos (by omega),if_neg (by omega),if_pos (by omega),if_neg (by omega)]
    rw [show i*2+1 - min (i*2+1) (c*2)=0 by omega,show i*2+1 - min (i*2) (c*2)=1 by omega];rfl
   ·by_cases h4:j<L.length*2
    ·rw [if_pos h4,if_neg (by omega),if_neg (by omega)]
     rw [if_pos (by omega)]
     congr 1
     omega
    ·rw [if_neg h4,if_neg (by omega)]
     rw [if_neg (by omega)]
theorem set_name (D lo c:Nat) (o:Option Nat) (L:List En) (s:ByteArray) (v:Int) (w:World) (hm:s.size≤9223372036854775807) (h:Du w D lo o c L) (he:nerr s.data.toList≠0) :
  Calls Tryz.prog 96 #[Pq D,.string s,.int .i64 v] w (StepE w D lo o (.int .i64 (nerr s.data.toList)) L):=by
 have HN:=Lib.hid (name_any s w hm)
 unfold NameE at HN
 have HF:=Lib.hid (fun w' hb=>stepE_same (v:=.int .i64 (nerr s.data.toList)) (w':=w') h hb)
 generalize nerr s.data.toList=r at *
 have hr:(r != 0)=true:=by simpa using he
 have hr2:(r == 0)=false:=by simpa using he
 clear h he
 go_enter Tryz.func96,Tryz.ntmps96
 go_wp2_with fail
 refine HN.out.mono ?_
 rintro e w2 ⟨rfl,hb2⟩
 go_wp2_with fail
 go_ret
 exact HF.out _ hb2
theorem Du.frozen {w:World} {D lo c G:Nat} {o:Option Nat} {L:List En} (h:Du w D lo o c L) (ho:o=some G) (k:Nat):w.frozen? ⟨G,k,none⟩=false:=by subst ho;exact h.row.2.2.frozen k
theorem set_dot (D lo c:Nat) (o:Option Nat) (L:List En) (s:ByteArray) (v:Int) (w:World) (hm:s.size≤9223372036854775807) (h:Du w D lo o c L) (he:nerr s.data.toList=0) (hd:dotB s=true∨v<1) :
  Calls Tryz.prog 96 #[Pq D,.string s,.int .i64 v] w (StepE w D lo o (.int .i64 22) L):=by
 have HN:=Lib.hid (name_any s w hm)
 unfold NameE at HN
 rw [he] at HN
 have HF:=Lib.hid (fun w' hb=>stepE_same (v:=.int .i64 22) (w':=w') h hb)
 unfold dotB at hd
 have hq1:∃ a,(s.toList == [46])=a:=⟨_,rfl⟩
 have hq2:∃ a,(s.toList == [46,46])=a:=⟨_,rfl⟩
 obtain ⟨q1,h1⟩:=hq1
 obtain ⟨q2,h2⟩:=hq2
 rw [h1,h2] at hd
 clear h he
 have hd':q1=true∨(q1=false∧q2=true)∨(q1=false∧q2=false∧v<1):=by
  cases q1 <;> cases q2 <;> simp at hd ⊢ <;> exact hd
 clear hd
 rcases hd' with rfl|⟨rfl,rfl⟩|⟨rfl,rfl,hv⟩
 all_goals
  go_enter Tryz.func96,Tryz.ntmps96
  go_wp2_with fail
  refine HN.out.mono ?_
  rintro e w2 ⟨rfl,hb2⟩
  go_wp2_with fail
  go_ret
  exact HF.out _ hb2
theorem Du.old {w w2:World} {D lo c:Nat} {o:Option Nat} {L:List En} {s:ByteArray} {x:En} {v:Int} {G:Nat} (h:Du w2 D lo (some G) c L) (hx:L[pos s L]?=some x) (hs:x.1=s) (hb:Below w.heap.size w w2) (hD:D<w.heap.size) (ho:o=some G) :
  StepE w D lo o (.int .i64 0) (lset s v L) (.returned (.int .i64 0)) (w2.setCell ⟨G,pos s L*2+1,none⟩ (.int .i64 v)):=by
 subst ho
 rw [lset_old hx hs]
 have hr:=h.row.2.2.setNum hx v
 rw [hs] at hr
 refine ⟨rfl,some G,c,⟨?_,by simpa using h.f0,h.row.1,h.row.2.1,hr⟩,fun G e=>.inl e,?_⟩
 ·rw [World.cell?_setCell_other _ _ _ _ (fun e=>h.row.2.1 (by have:=congrArg Addr.block e;simpa using this.symm)),List.length_set];exact h.d0
 ·exact (Fr.below hb).trans (Fr.grown (grownBy_set w2 G _ _)) (fun k e=>.inl e)
theorem set_old (D lo c:Nat) (o:Option Nat) (L:List En) (s:ByteArray) (v:Int) (w:World) (hm:s.size≤9223372036854775807) (h:Du w D lo o c L) (hs:Sorted L) (hN:L.length≤1000000) (he:nerr s.data.toList=0) (hd:dotB s=false) (hv:¬ v<1) (ht:thereB s L=true) :
  Calls Tryz.prog 96 #[Pq D,.string s,.int .i64 v] w (StepE w D lo o (.int .i64 0) (lset s v L)):=by
 have HNA:=Lib.hid (name_any s w hm)
 unfold NameE at HNA
 rw [he] at HNA
 have HP:=Lib.hid (fun W (hb:Below w.heap.size w W)=>place_any D lo c o L s W hs hN (h.below hb))
 unfold PlaceE at HP
 rw [ht] at HP
 obtain ⟨x,hx,hxs,hl⟩:=there_yes hs ht
 have hk:=(List.getElem?_eq_some_iff.1 hx).1
 have HX:=Lib.hid (fun W (hb:Below w.heap.size w W)=>(h.below hb).at_ hx)
 have HD:=Lib.hid (fun W (hb:Below w.heap.size w W)=>(h.below hb))
 have HF:=Lib.hid (fun W G (hb:Below w.heap.size w W) (ho:o=some G)=>Du.old (w:=w) (v:=v) (o:=o) (by rw [← ho];exact h.below hb) hx hxs hb h.lt ho)
 have hq:(s.toList == [46])=false∧(s.toList == [46,46])=false:=by simpa [dotB] using hd
 obtain ⟨h1,h2⟩:=hq
 have HFZ:=Lib.hid (fun W (hb:Below w.heap.size w W) G (ho:o=some G) k=>(h.below hb).frozen ho k)
 have HD0:=Lib.hid (fun W (hb:Below w.heap.size w W)=>(h.below hb).d0)
 generalize pos s L=k at *
 generalize lset s v L=K at *
 generalize L.length=n at *
 clear h hs he hd ht hx hxs hl
 go_enter Tryz.func96,Tryz.ntmps96
 go_wp2_with fail
 refine HNA.out.mono ?_
 rintro e w2 ⟨rfl,hb2⟩
 have HP2:=Lib.hid (HP.out _ hb2)
 have HB2:=Lib.hid hb2
 clear hb2 HP HNA
 go_wp2_with fail
 refine HP2.out.mono ?_
 rintro e w3 ⟨rfl,hb3⟩
 have hb4:=below_step HB2.out hb3
 obtain ⟨G,ho,f0,f1⟩:=HX.out w3 hb4
 have d0:=HD0.out w3 hb4
 have z0:=HFZ.out w3 hb4 G ho (k*2+1)
 have HR:=Lib.hid (HF.out w3 G hb4 ho)
 rw [ho] at d0
 clear HP2 hb3 hb4 HX HD HFZ HD0 HF f0
 go_wp2_with fail
 go_ret
 exact HR.out
theorem Du.sl {w:World} {D lo c:Nat} {o:Option Nat} {L:List En} (h:Du w D lo o c L):Sl w lo o c L:=by
 cases o with
 | none=>exact h.row
 | some G=>exact ⟨h.row.1,h.row.2.2⟩
theorem lset_len {s:ByteArray} {v:Int} {L:List En} (h:∀ x,L[pos s L]?=some x→x.1≠s):(lset s v L).length=L.length+1:=by
 rw [lset_new h];simp;have:=pos_le s L;omega
theorem Du.stored {w W w4:World} {D lo c:Nat} {o:Option Nat} {L K:List En} {n:Nat} {e:Ending} {vv:Value} (h:Du w D lo o c L) (hb:Below w.heap.size w W) (hK:K.length=n+1) (hi:InsE W lo o n K e w4) :
  w4.cell? ⟨D,0,none⟩=some (.slice (Ao o) L.length c)∧w4.frozen? ⟨D,0,none⟩=false∧∃ G c',e=.returned (.slice (some ⟨G,0,none⟩) (n+1) c') ∧
   StepE w D lo o vv K (.returned vv) (w4.setCell ⟨D,0,none⟩ (.slice (some ⟨G,0,none⟩) (n+1) c')):=by
 obtain ⟨G,c',he,hr,hlo,hat,hg⟩:=hi
 have hD:=h.lt
 have hDW:D<W.heap.size:=Nat.lt_of_lt_of_le hD hb.size
 have hne:some D≠o:=fun e=>(h.glt D e.symm).2.2 rfl
 have hblk:w4.heap[D]?=w.heap[D]?:=(hg.block D hDW hne).trans (hb.block D hD)
 have c0:=(World.cell?_of_block (a:=⟨D,0,none⟩) hblk).trans h.d0
 have c1:=(World.frozen?_of_block (a:=⟨D,0,none⟩) hblk).trans h.f0
 have hDG:D≠G:=by
  rcases hat with e|e
  ·exact (h.glt G e).2.2
  ·omega
 refine ⟨c0,c1,G,c',he,rfl,some G,c',⟨?_,by simpa using c1,hlo,hDG,hr.of_block (Below.heap_setCell _ _ _ _ (fun e=>hDG (by simpa using e.symm)))⟩,fun G' e=>?_,?_⟩
 ·rw [World.cell?_setCell_same _ _ _ c0,hK];rfl
 ·injection e with e;subst e;exact hat.imp id (fun e=>Nat.le_trans hb.size e)
 ·exact ((Fr.below hb).trans (Fr.grown (Q:=D) hg) (fun k e=>.inl e)).trans (Fr.setQ w4 D o _) (fun k e=>.inl e)
theorem set_new (D lo c:Nat) (o:Option Nat) (L:List En) (s:ByteArray) (v:Int) (w:World) (hm:s.size≤9223372036854775807) (h:Du w D lo o c L) (hlo:lo≤w.heap.size) (hs:Sorted L) (hN:L.length≤900000) (he:nerr s.data.toList=0) (hd:dotB s=false) (hv:¬ v<1) (ht:thereB s L=false) :
  Calls Tryz.prog 96 #[Pq D,.string s,.int .i64 v] w (StepE w D lo o (.int .i64 0) (lset s v L)):=by
 have HNA:=Lib.hid (name_any s w hm)
 unfold NameE at HNA
 rw [he] at HNA
 have HP:=Lib.hid (fun W (hb:Below w.heap.size w W)=>place_any D lo c o L s W hs (by omega) (h.below hb))
 unfold PlaceE at HP
 rw [ht] at HP
 obtain ⟨hl,hno⟩:=there_no hs ht
 have HD0:=Lib.hid (fun W (hb:Below w.heap.size w W)=>(h.below hb).d0)
 have HI:=Lib.hid (fun W (hb:Below w.heap.size w W)=>ins_any c lo (pos s L) W.heap.size 1 o L (s,v) (W.alloc (.cells #[.string s,.int .i64 v] 125)) (pos_le s L) (by omega) (by simp;have:=hb.size;omega)
  ((h.below (below_step hb (below_alloc W _))).sl) (heap_alloc_new W _) (fun e=>by have:=(h.glt _ e).1;have:=hb.size;omega))
 rw [← lset_new hno] at HI
 have HST:=Lib.hid (fun W w4 e (hb:Below w.heap.size w W) hi=>Du.stored (W:=W) (w4:=w4) (e:=e) (n:=L.length) (vv:=.int .i64 0) h hb (lset_len (v:=v) hno) hi)
 have hq:(s.toList == [46])=false∧(s.toList == [46,46])=false:=by simpa [dotB] using hd
 obtain ⟨h1,h2⟩:=hq
 generalize pos s L=k at *
 generalize lset s v L=K at *
 generalize L.length=n at *
 clear h hs he hd ht hl hno
 go_enter Tryz.func96,Tryz.ntmps96
 go_wp2_with fail
 refine HNA.out.mono ?_
 rintro e w2 ⟨rfl,hb2⟩
 have HP2:=Lib.hid (HP.out _ hb2)
 have HB2:=Lib.hid hb2
 clear hb2 HP HNA
 go_wp2_with fail
 refine HP2.out.mono ?_
 rintro e w3 ⟨rfl,hb3⟩
 have hb4:=below_step HB2.out hb3
 have d0:=HD0.out w3 hb4
 have HI3:=Lib.hid (HI.out w3 hb4)
 have HST3:=Lib.hid (fun w4 e hi=>HST.out (w3.alloc (.cells #[.string s,.int .i64 v] 125)) w4 e (below_step hb4 (below_alloc w3 _)) hi)
 clear HP2 hb3 hb4 HD0 HI HST
 go_wp2_with fail
 refine HI3.out.mono ?_
 intro e w4 hi
 obtain ⟨c0,c1,G,c',rfl,hst⟩:=HST3.out w4 e hi
 have HR:=Lib.hid hst
 clear hi hst HI3 HST3 d0
 go_wp2_with fail
 go_ret
 exact HR.out
theorem set_any (D lo c:Nat) (o:Option Nat) (L:List En) (s:ByteArray) (v:Int) (w:World) (hm:s.size≤9223372036854775807) (h:Du w D lo o c L) (hlo:lo≤w.heap.size) (hs:Sorted L) (hN:L.length≤900000) :
  Calls Tryz.prog 96 #[Pq D,.string s,.int .i64 v] w (StepE w D lo o (.int .i64 (serr s v)) (lsetE s v L)):=by
 unfold lsetE serr
 by_cases he:nerr s.data.toList=0
 ·rw [if_neg (by simpa using he)]
  by_cases hd:dotB s=true∨v<1
  ·rw [if_pos hd,if_neg (by decide)]
   exact set_dot D lo c o L s v w hm h he hd
  ·rw [if_neg hd,if_pos rfl]
   have hd1:dotB s=false:=by simpa using fun e=>hd (.inl e)
   have hv:¬ v<1:=fun e=>hd (.inr e)
   cases ht:thereB s L
   ·exact set_new D lo c o L s v w hm h hlo hs hN he hd1 hv ht
   ·exact set_old D lo c o L s v w hm h hs (by omega) he hd1 hv ht
 ·rw [if_pos (by simpa using he),if_neg he]
  exact set_name D lo c o L s v w hm h he
end Go.Proofs.YtgoddboicjfkcaaGreat.dn
