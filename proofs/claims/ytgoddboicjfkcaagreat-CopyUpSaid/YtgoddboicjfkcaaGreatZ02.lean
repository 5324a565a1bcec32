/- Contracts and mathematics, part 2. -/
import Derived.Test.YtgoddboicjfkcaaGreatZ01
set_option linter.unusedVariables false
set_option linter.unusedSimpArgs false
set_option maxRecDepth 100000
set_option maxHeartbeats 8000000
namespace Go.Proofs.YtgoddboicjfkcaaGreat
namespace dn
open Go.RowKit
theorem encode_form (r:Int) (hv:Utf8.valid r=true) (h128:128≤r) :
  (∃a b:UInt8,Utf8.encode r=⟨#[a,b]⟩∧128≤b.toNat)∨(∃a b c:UInt8,Utf8.encode r=⟨#[a,b,c]⟩)∨∃a b c d:UInt8,Utf8.encode r=⟨#[a,b,c,d]⟩:=by
 have hc:¬r.toNat<128:=by omega
 unfold Utf8.encode
 simp only [hv,if_true,hc,if_false]
 split
 ·exact .inl ⟨_,_,rfl,by simp;omega⟩
 ·split
  ·exact .inr (.inl ⟨_,_,_,rfl⟩)
  ·exact .inr (.inr ⟨_,_,_,_,rfl⟩)
theorem none_ext (c:Int) (w:World):Calls Tryz.prog 244 #[.string ((⟨#[0,47]⟩:ByteArray).extract 2 2),.int .u8 c] w fun e w'=>e=.returned (.int .i64 (-1))∧w'=w :=
 (Tryz.strings_IndexByte _ c w).mono fun e w' ⟨he,hw⟩=>⟨by rw [he];rfl,hw⟩
theorem none_nil (c:Int) (w:World):Calls Tryz.prog 244 #[.string ⟨#[]⟩,.int .u8 c] w fun e w'=>e=.returned (.int .i64 (-1))∧w'=w :=
 (Tryz.strings_IndexByte ⟨#[]⟩ c w).mono fun e w' ⟨he,hw⟩=>⟨by rw [he];rfl,hw⟩
def NotThere (w:World) (e:Ending) (w':World):Prop:=e=.returned (.int .i64 (-1))∧Below w.heap.size w w'
theorem valid_lib (r:Int):Lib.validRune r=Utf8.valid r:=(validRune_eq r).symm
theorem quiet_add_same' {P:Program} {f:FuncId} {args:Array Value} {w:World} {a n:Nat} {v:Value}
  (h:Calls P f args (w.drewN (a+n)) fun e w'=>e=.returned v∧w'=w.drewN (a+n)):Calls P f args (w.drewN (a+n)) fun e w''=>e=.returned v∧∃m,w''=w.drewN (a+m) :=
 h.mono fun _ _ ⟨he,hm⟩=>⟨he,n,hm⟩
theorem valid_any (r:Int) (b:Bool) (w:World) (hv:Lib.validRune r=b):Calls Tryz.prog 245 #[.int .i32 r] w fun e w'=>e=.returned (.bool b)∧w=w' :=
 (Tryz.utf8_ValidRune r w).mono fun e w' ⟨he,hw⟩=>⟨by rw [he,hv],hw.symm⟩
theorem rune_bad (r:Int) (w:World) (h128:128≤r) (hv:Lib.validRune r=false) (hr:¬r=65533):Calls Tryz.prog 231 #[.string ⟨#[0,47]⟩,.int .i32 r] w (NotThere w):=by
 have ma:(r == 65533)=false:=beq_eq_false_iff_ne.2 hr
 have HV:=Qa (fun w=>valid_any r false w hv)
 clear hv hr
 go_enter Tryz.func231,Tryz.ntmps231
 go_wp2_with (go_at_call 245;refine (HV.out _).mono ?_;rintro e w' ⟨rfl,rfl⟩)
 go_ret
 exact ⟨rfl,Below.refl _ _⟩
theorem rune_good (r:Int) (w:World) (h128:128≤r) (hv:Lib.validRune r=true) (hr:¬r=65533):Calls Tryz.prog 231 #[.string ⟨#[0,47]⟩,.int .i32 r] w (NotThere w):=by
 have ja:(r == 65533)=false:=beq_eq_false_iff_ne.2 hr
 have HV:=Qa (fun w=>valid_any r true w hv)
 have HF:=Qa (encode_form r (by rw [←valid_lib];exact hv) h128)
 clear hv hr
 rcases HF.out with ⟨a,b,he,hb⟩|⟨a,b,c,he⟩|⟨a,b,c,d,he⟩
 ·have xa:(128:Int)≤(b.toNat:Int):=by omega
  have ma:((47:Int) != (b.toNat:Int))=true:=by rw [bne_iff_ne];omega
  have qa:((((⟨#[0,47]⟩:ByteArray)[1]'(by show 1<2;decide)).toNat:Int) != (((⟨#[a,b]⟩:ByteArray)[1]'(by show 1<2;decide)).toNat:Int))=true:=ma
  clear HF hb
  go_enter Tryz.func231,Tryz.ntmps231
  go_wp2_with (go_at_call 245;refine (HV.out _).mono ?_;rintro e w' ⟨rfl,rfl⟩)
  go_step3
  go_wp2_with fail
  refine wp_loop_rounds 1 ?_
  rw [rounds_succ]
  go_wp2_with fail
  go_step3
  go_wp2_with fail
  go_quiet (fail)
  go_wp2_with fail
  have ya:IntKind.i64.wrap 2=2:=by decide
  go_quiet ((go_at_call 244;first|exact quiet_add_same' (none_nil _ _)|exact quiet_add_same' (none_ext _ _)))
  go_wp2_with fail
  try rw [Exit.noGoto_ret]
  go_ret
  exact ⟨rfl,below_drewN (Below.refl _ _) _⟩
 ·clear HF
  go_enter Tryz.func231,Tryz.ntmps231
  go_wp2_with (go_at_call 245;refine (HV.out _).mono ?_;rintro e w' ⟨rfl,rfl⟩)
  go_step3
  go_wp2_with fail
  refine wp_loop_rounds 1 ?_
  rw [rounds_succ]
  go_wp2_with fail
  try rw [Exit.noGoto_ret]
  go_ret
  exact ⟨rfl,Below.refl _ _⟩
 ·clear HF
  go_enter Tryz.func231,Tryz.ntmps231
  go_wp2_with (go_at_call 245;refine (HV.out _).mono ?_;rintro e w' ⟨rfl,rfl⟩)
  go_step3
  go_wp2_with fail
  refine wp_loop_rounds 1 ?_
  rw [rounds_succ]
  go_wp2_with fail
  try rw [Exit.noGoto_ret]
  go_ret
  exact ⟨rfl,Below.refl _ _⟩
theorem rune_err (w:World):Calls Tryz.prog 231 #[.string ⟨#[0,47]⟩,.int .i32 65533] w (NotThere w):=by
 have n0:=fun ty=>run_next_ascii (P:=Tryz.prog) w ⟨#[0,47]⟩ 0 ty (by show 0<2;decide) (by show (0:UInt8).toNat<128;decide)
 have n1:=fun ty=>run_next_ascii (P:=Tryz.prog) w ⟨#[0,47]⟩ 1 ty (by show 1<2;decide) (by show (47:UInt8).toNat<128;decide)
 have n2:=fun ty=>run_next_end (P:=Tryz.prog) w ⟨#[0,47]⟩ 2 ty (by show ¬2<2;decide)
 have m0:(((⟨#[0,47]⟩:ByteArray)[0]'(by show 0<2;decide)).toNat:Int)=0:=rfl
 have m1:(((⟨#[0,47]⟩:ByteArray)[1]'(by show 1<2;decide)).toNat:Int)=47:=rfl
 rw [m0] at n0
 rw [m1] at n1
 clear m0 m1
 go_enter Tryz.func231,Tryz.ntmps231
 go_wp2_with fail
 refine wp_loop_rounds 3 ?_
 rw [rounds_succ]
 go_wp2_with fail
 rw [rounds_succ]
 go_wp2_with fail
 rw [rounds_succ]
 go_wp2_with fail
 try rw [Exit.noGoto_ret]
 go_ret
 exact ⟨rfl,(Below.refl _ _).alloc (Nat.le_refl _) _⟩
theorem rune_high (r:Int) (w:World) (h128:128≤r):Calls Tryz.prog 231 #[.string ⟨#[0,47]⟩,.int .i32 r] w (NotThere w):=by
 by_cases hr:r=65533
 ·subst hr
  exact rune_err w
 ·cases hv:Lib.validRune r
  ·exact rune_bad r w h128 hv hr
  ·exact rune_good r w h128 hv hr
theorem decode_span (s:ByteArray) (pos:Nat) (h:pos<s.size) (ha:128≤(s[pos]'h).toNat):∀k,k<(Utf8.decode s pos).2→pos+k<s.size∧128≤(s.get! (pos+k)).toNat:=by
 have e0:=get_at s pos h
 have h0:pos+0<s.size∧128≤(s.get! (pos+0)).toNat:=⟨by omega,by rw [e0];exact ha⟩
 have hn:¬(s[pos]'h).toNat<128:=by omega
 intro k
 simp only [Utf8.decode,e0,hn,if_false]
 have ma:k<1→pos+k<s.size∧128≤(s.get! (pos+k)).toNat:=fun hk=>by
  have:k=0:=by omega
  subst this
  exact h0
 have hc:∀i:Nat,(decide (pos+i<s.size) && (s.get! (pos+i)).toNat / 64 == 2)=true→pos+i<s.size∧128≤(s.get! (pos+i)).toNat:=fun i hi=>by
  simp only [Bool.and_eq_true,decide_eq_true_eq,beq_iff_eq] at hi
  exact ⟨hi.1,by omega⟩
 split
 ·rename_i h2
  simp only [Bool.and_eq_true] at h2
  have c1:=hc 1 (by simp only [Bool.and_eq_true];exact h2.2)
  split
  ·intro hk
   rcases (show k=0∨k=1 by simp at hk;omega) with rfl|rfl
   ·exact h0
   ·exact c1
  ·exact fun hk=>ma hk
 ·split
  ·rename_i h2
   simp only [Bool.and_eq_true] at h2
   have c1:=hc 1 (by simp only [Bool.and_eq_true];exact h2.1.2)
   have c2:=hc 2 (by simp only [Bool.and_eq_true];exact h2.2)
   split
   ·intro hk
    rcases (show k=0∨k=1∨k=2 by simp at hk;omega) with rfl|rfl|rfl
    ·exact h0
    ·exact c1
    ·exact c2
   ·exact fun hk=>ma hk
  ·split
   ·rename_i h2
    simp only [Bool.and_eq_true] at h2
    have c1:=hc 1 (by simp only [Bool.and_eq_true];exact h2.1.1.2)
    have c2:=hc 2 (by simp only [Bool.and_eq_true];exact h2.1.2)
    have c3:=hc 3 (by simp only [Bool.and_eq_true];exact h2.2)
    split
    ·intro hk
     rcases (show k=0∨k=1∨k=2∨k=3 by simp at hk;omega) with rfl|rfl|rfl|rfl
     ·exact h0
     ·exact c1
     ·exact c2
     ·exact c3
    ·exact fun hk=>ma hk
   ·exact fun hk=>ma hk
theorem below_iterAt {B:Nat} {a w:World} (h:Below B a w) {k:Nat} (hk:B≤k) (s:ByteArray) (p:Nat):Below B a (w.iterAt k s p) :=
 h.trans ⟨rfl,rfl,rfl,by simp [World.iterAt],fun i hi=>by simp only [World.iterAt];rw [Array.getElem?_setIfInBounds_ne (by omega)]⟩
theorem noAny_span (s:ByteArray) (pos:Nat) (h:pos<s.size) (ha:128≤(s[pos]'h).toNat) (hno:Lib.NoAny s.data.toList [0,47] pos) :
  ∀k,k≤(Utf8.decode s pos).2→pos+k≤s.size∧Lib.NoAny s.data.toList [0,47] (pos+k):=by
 intro k
 induction k with
 | zero=>exact fun _=>⟨by omega,hno⟩
 | succ k ih =>
  intro hk
  obtain ⟨_,h1⟩:=ih (by omega)
  obtain ⟨h2,h3⟩:=decode_span s pos h ha k (by omega)
  have e:=get_at s (pos+k) h2
  rw [Nat.add_zero] at e
  rw [e] at h3
  refine ⟨by omega,h1.succ (x:=s[pos+k]'h2) (Lib.data_getElem? s (pos+k) h2) ?_⟩
  rw [Bool.eq_false_iff]
  intro hc
  simp at hc
  rcases hc with hc|hc <;> rw [hc] at h3 <;> exact absurd h3 (by decide)
def AnyE (w:World) (v:Int) (e:Ending) (w':World):Prop:=e=.returned (.int .i64 v)∧Below w.heap.size w w'
theorem any_short (s:ByteArray) (w:World) (h8:s.size≤8):Calls Tryz.prog 220 #[.string s,.string ⟨#[0,47]⟩] w (AnyE w (Lib.indexAny s.data.toList [0,47])):=by
 have la:decide ((8:Int)<(s.size:Int))=false:=decide_eq_false (by omega)
 go_enter Tryz.func220,Tryz.ntmps220
 go_wp2_with (go_at_call 232;refine (Tryz.strings_shouldUseASCIISet _ _).mono ?_;rintro e w' ⟨rfl,hw⟩;rw [hw,la])
 go_loopg [9,10] s.size (fun g _ _ wx=>∃i:Nat,i≤s.size∧g+i=s.size∧wx.heap[w.heap.size]?=some (.stringIter s i)∧Below w.heap.size w wx∧Hid (Lib.NoAny s.data.toList [0,47] i))
 case atStart=>exact ⟨0,by omega,by omega,World.iter_heap w s 0,(Below.refl _ _).alloc (Nat.le_refl _) _,Lib.NoAny.zero _ _⟩
 case round =>
  obtain ⟨i,hi,hg,hk,hb,HN⟩:=hrel
  have da:w.heap.size<wr.heap.size:=(Array.getElem?_eq_some_iff.1 hk).1
  by_cases hlt:i<s.size
  ·have xa:=fun ty=>Lib.run_next_any_at (P:=Tryz.prog) wr w.heap.size s i ty hk hlt
   have HI:=Qa (fun p=>Lib.iterAt_heap wr w.heap.size s i p hk)
   have HB:=Qa (fun p=>below_iterAt hb (Nat.le_refl _) s p)
   have HS:=Qa (show ∀p,(wr.iterAt w.heap.size s p).heap.size=wr.heap.size from fun p=>by simp [World.iterAt])
   have Hx:=Qa (Lib.data_getElem? s i hlt)
   by_cases ha:(s[i]'hlt).toNat<128
   ·rw [decode_ascii s i hlt ha] at xa
    obtain ⟨x,hx⟩:∃x:UInt8,s[i]'hlt=x:=⟨_,rfl⟩
    rw [hx] at xa ha
    have Hx2:=Qa (show s.data.toList[i]?=some x by rw [Hx.out,hx])
    have qa:=Lib.contains_iff_indexByte [0,47] x
    have ja:((x.toNat:Int)).toNat.toUInt8=x:=by simp
    clear hx Hx
    cases hin:([0,47]:List UInt8).contains x
    ·rw [hin] at qa
     have ga:Lib.indexByte [0,47] x<0:=by have:=of_decide_eq_false qa.symm;omega
     clear qa
     go_wp2_with (go_at_call 231;refine (Tryz.strings_IndexRune_ascii _ _ _ (by omega) (by omega)).mono ?_;rintro e w' ⟨rfl,hw⟩;rw [hw,ja])
     go_roundg (gk - 1)
     case measure=>omega
     case rel =>
      exact ⟨i+1,by omega,by omega,HI.out _,HB.out _,Qa (HN.out.succ Hx2.out hin)⟩
    ·rw [hin] at qa
     have ga:¬Lib.indexByte [0,47] x<0:=by have:=of_decide_eq_true qa.symm;omega
     have fa:0≤Lib.indexByte [0,47] x:=by omega
     clear qa
     have HR:=Qa (Lib.indexAny_hit HN.out Hx2.out hin)
     go_wp2_with (go_at_call 231;refine (Tryz.strings_IndexRune_ascii _ _ _ (by omega) (by omega)).mono ?_;rintro e w' ⟨rfl,hw⟩;rw [hw,ja])
     go_ret
     exact ⟨by rw [HR.out];rfl,HB.out _⟩
   ·have ma:=Qa (noAny_span s i hlt (by omega) HN.out (Utf8.decode s i).2 (Nat.le_refl _))
    have ya:=decode_high s i hlt (by omega)
    have ba:=decode_le s i
    clear Hx
    generalize Utf8.decode s i=p at *
    obtain ⟨r,n⟩:=p
    simp only at xa ma ya ba
    have ga:1≤n:=ya.2
    have kb:128≤r:=ya.1
    clear ya ha
    go_wp2_with (go_at_call 231;refine (rune_high _ _ (by omega)).mono ?_;rintro e w5 ⟨rfl,hb5⟩)
    go_roundg (gk - n)
    case measure=>have:=ma.out.1;omega
    case rel =>
     refine ⟨i+n,ma.out.1,by have:=ma.out.1;omega,?_,(HB.out _).trans (hb5.mono (by rw [HS.out];omega)),Qa ma.out.2⟩
     rw [hb5.block _ (by rw [HS.out];exact da)]
     exact HI.out _
  ·have sa:i=s.size:=by omega
   have xa:=fun ty=>Lib.run_next_end_at (P:=Tryz.prog) wr w.heap.size s i ty hk hlt
   have HR:=Qa (Lib.indexAny_none (s:=s.data.toList) (chars:=[0,47]) (by rw [←Lib.size_eq,←sa];exact HN.out))
   clear sa
   go_wp2_with fail
   go_ret
   exact ⟨by rw [HR.out];rfl,hb⟩
theorem info66:(Tryz.prog.info? 313).map (fun i=>(i.zero,i.size))=some (some (.agg (Array.replicate 256 (.bool false))),256):=by kernel_rfl
theorem any_any (s:ByteArray) (w:World) (hs:s.size≤60):Calls Tryz.prog 220 #[.string s,.string ⟨#[0,47]⟩] w (AnyE w (Lib.indexAny s.data.toList [0,47])):=by
 by_cases h8:s.size≤8
 ·exact any_short s w h8
 ·refine (Tryz.strings_IndexAny_long (zero_of_info info66).1 s ⟨#[0,47]⟩ w (by decide) (by omega) (by omega) (by decide) ?_).mono ?_
  ·intro j b hj
   match j,hj with
   | 0,hj=>simp at hj;subst hj;decide
   | 1,hj=>simp at hj;subst hj;decide
  ·rintro e w' ⟨he,hw⟩
   exact ⟨he,by rw [hw];exact ((Below.refl _ _).alloc (Nat.le_refl _) _).alloc (by simp) _⟩
theorem indexAny_iff (L:Bs):(0≤Lib.indexAny L [0,47])↔((0:UInt8)∈L∨(47:UInt8)∈L):=by
 induction L with
 | nil=>simp [Lib.indexAny]
 | cons b l ih =>
  unfold Lib.indexAny
  by_cases hb:b=0∨b=47
  ·have hc:([0,47]:List UInt8).contains b=true:=by rcases hb with rfl|rfl <;> decide
   rw [Jb hc]
   refine ⟨fun _=>?_,fun _=>Int.le_refl _⟩
   rcases hb with rfl|rfl
   ·exact .inl (by simp)
   ·exact .inr (by simp)
  ·have hc:([0,47]:List UInt8).contains b=false:=by
    rw [Bool.eq_false_iff]
    intro h
    simp at h
    exact hb h
   rw [hc,Ja (by decide)]
   have ma:=Lib.indexAny_ge [0,47] l
   have h1:(0:UInt8)≠b:=fun e=>hb (.inl e.symm)
   have h2:(47:UInt8)≠b:=fun e=>hb (.inr e.symm)
   rw [List.mem_cons,List.mem_cons]
   simp only [h1,h2,false_or]
   rw [←ih]
   split
   ·rename_i h
    rw [beq_iff_eq] at h
    omega
   ·rename_i h
    rw [beq_iff_eq] at h
    omega
def nerr (L:Bs):Int:=if L=[] then 2 else if 60<L.length then 36 else if (0:UInt8)∈L∨(47:UInt8)∈L then 22 else 0
def NameE (w:World) (L:Bs) (e:Ending) (w':World):Prop:=e=.returned (.int .i64 (nerr L))∧Below w.heap.size w w'
theorem has_any (s:ByteArray) (w:World) (hs:s.size≤60) (b:Bool) (hb:decide (0≤Lib.indexAny s.data.toList [0,47])=b):Calls Tryz.prog 183 #[.string s,.string ⟨#[0,47]⟩] w fun e w'=>e=.returned (.bool b)∧Below w.heap.size w w':=by
 have HA:=any_any s w hs
 generalize Lib.indexAny s.data.toList [0,47]=n at *
 go_enter Tryz.func183,Tryz.ntmps183
 go_wp2_with (go_at_call 220;refine HA.mono ?_;rintro e w' ⟨rfl,hw⟩)
 go_ret
 exact ⟨by rw [←hb];rfl,hw⟩
theorem name_any (s:ByteArray) (w:World) (hm:s.size≤9223372036854775807):Calls Tryz.prog 136 #[.string s] w (NameE w s.data.toList):=by
 by_cases h0:s.data.toList=[]
 ·have e:s=⟨#[]⟩:=by rw [←Lib.mk_data s,h0]
  subst e
  go_enter Tryz.func136,Tryz.ntmps136
  go_wp2
  go_ret
  exact ⟨rfl,Below.refl _ _⟩
 ·have ma:s.toList.isEmpty=false:=by
   rw [Lib.toList_data]
   cases h':s.data.toList with
   | nil=>exact absurd h' h0
   | cons _ _=>rfl
  by_cases h60:60<s.size
  ·have HR:=Qa (show nerr s.data.toList=36 by unfold nerr;rw [Ja h0,Jb (by rw [←Lib.size_eq];exact h60)])
   clear h0
   go_enter Tryz.func136,Tryz.ntmps136
   go_wp2
   go_ret
   exact ⟨by rw [HR.out];rfl,Below.refl _ _⟩
  ·by_cases hbad:(0:UInt8)∈s.data.toList∨(47:UInt8)∈s.data.toList
   ·have HR:=Qa (show nerr s.data.toList=22 by unfold nerr;rw [Ja h0,Ja (by rw [←Lib.size_eq];exact h60),Jb hbad])
    have HC:=has_any s w (by omega) true (decide_eq_true ((indexAny_iff _).2 hbad))
    clear h0 hbad
    go_enter Tryz.func136,Tryz.ntmps136
    go_wp2_with (go_at_call 183;refine HC.mono ?_;rintro e w' ⟨rfl,hw⟩)
    go_ret
    exact ⟨by rw [HR.out];rfl,hw⟩
   ·have HR:=Qa (show nerr s.data.toList=0 by unfold nerr;rw [Ja h0,Ja (by rw [←Lib.size_eq];exact h60),Ja hbad])
    have HC:=has_any s w (by omega) false (decide_eq_false (fun h=>hbad ((indexAny_iff _).1 h)))
    clear h0 hbad
    go_enter Tryz.func136,Tryz.ntmps136
    go_wp2_with (go_at_call 183;refine HC.mono ?_;rintro e w' ⟨rfl,hw⟩)
    go_ret
    exact ⟨by rw [HR.out];rfl,hw⟩
end dn
namespace dn
open Go.RowKit Go.Shelf
structure Fr (w w':World) (Q:Nat) (o:Option Nat):Prop where
 os:w'.os=w.os
 tape:w'.tape=w.tape
 output:w'.output=w.output
 size:w.heap.size≤w'.heap.size
 block:∀k,k<w.heap.size→k≠Q→o≠some k→w'.heap[k]?=w.heap[k]?
theorem Fr.grown {w w':World} {Q:Nat} {o:Option Nat} (h:w.grownBy w' o):Fr w w' Q o:=⟨h.os,h.tape,h.output,h.size,fun k hk _ ho=>h.block k hk (fun e=>ho e.symm)⟩
theorem Fr.setQ (w:World) (Q:Nat) (o:Option Nat) (v:Value):Fr w (w.setCell ⟨Q,0,none⟩ v) Q o :=
 ⟨rfl,rfl,rfl,by simp [World.setCell],fun k _ hQ _=>by rw [Below.heap_setCell _ _ _ _ (fun e=>hQ e)]⟩
theorem Fr.trans {w w1 w2:World} {Q:Nat} {o o1:Option Nat} (h:Fr w w1 Q o) (h':Fr w1 w2 Q o1) (ho:∀k,o1=some k→o=some k∨w.heap.size≤k):Fr w w2 Q o :=
 ⟨h'.os.trans h.os,h'.tape.trans h.tape,h'.output.trans h.output,Nat.le_trans h.size h'.size,fun k hk hQ hk2 =>
  (h'.block k (Nat.lt_of_lt_of_le hk h.size) hQ (fun e=>by rcases ho k e with e|e;exact hk2 e;omega)).trans (h.block k hk hQ hk2)⟩
theorem Fr.below {w w':World} {Q:Nat} {o:Option Nat} (h:Below w.heap.size w w'):Fr w w' Q o:=⟨h.os,h.tape,h.output,h.size,fun k hk _ _=>h.block k hk⟩
def StepE (w:World) (D lo:Nat) (o:Option Nat) (v:Value) (L:List En) (e:Ending) (w':World):Prop :=
 e=.returned v∧∃o' c',Du w' D lo o' c' L∧(∀G,o'=some G→o=some G∨w.heap.size≤G)∧Fr w w' D o
theorem stepE_same {w w':World} {D lo c:Nat} {o:Option Nat} {v:Value} {L:List En} (h:Du w D lo o c L) (hb:Below w.heap.size w w'):StepE w D lo o v L (.returned v) w' :=
 ⟨rfl,o,c,h.below hb,fun G e=>.inl e,Fr.below hb⟩
theorem new_any (w:World) (lo:Nat) (hlo:lo≤w.heap.size):Calls Tryz.prog 156 #[] w (fun e w'=>e=.returned (Pq w.heap.size)∧Du w' w.heap.size lo none 0 []∧Below w.heap.size w w'):=by
 have HQ:=Qa (show Du (w.alloc (.cells #[.slice none 0 0] 239)) w.heap.size lo none 0 [] from ⟨by simp,by simp,⟨rfl,rfl⟩⟩)
 go_enter Tryz.func156,Tryz.ntmps156
 go_wp2_with fail
 go_ret
 exact ⟨rfl,HQ.out,below_alloc _ _⟩
def dotB (s:ByteArray):Bool:=s.toList == [46] || s.toList == [46,46]
def serr (s:ByteArray) (v:Int):Int:=if nerr s.data.toList≠0 then nerr s.data.toList else if dotB s=true∨v<1 then 22 else 0
def lsetE (s:ByteArray) (v:Int) (L:List En):List En:=if serr s v=0 then lset s v L else L
theorem ERow.setNum {w:World} {G c:Nat} {L:List En} {i:Nat} {x:En} (h:ERow w G c L) (hx:L[i]?=some x) (v:Int):ERow (w.setCell ⟨G,i*2+1,none⟩ (.int .i64 v)) G c (L.set i (x.1,v)):=by
 have hi:i<L.length:=(List.getElem?_eq_some_iff.1 hx).1
 have h1:=h.1
 refine ERow.sets (vs:=[.int .i64 v]) (o:=i*2+1) h (by simp;omega) (by intro v hv;simp at hv;subst hv;rfl) (by simpa using h1) fun X hl ht=>?_
 rw [List.length_set]
 have qa:L[i]=x:=by rw [List.getElem?_eq_getElem hi] at hx;simpa using hx
 rw [List.set_eq_take_append_cons_drop,Jb hi,show L.take i++(x.1,v)::L.drop (i+1)=L.take i++[(x.1,v)]++L.drop (i+1) by simp,encL_append,encL_append,←encL_take,←encL_drop,←ht]
 have ma:X[i*2]?=some (.string x.1):=by
  have:=(encL_at hx).1
  rw [←ht,List.getElem?_take_of_lt (by omega)] at this
  exact this
 have ja:i*2<X.length:=by omega
 rw [List.take_take,Nat.min_eq_left (by omega)]
 apply List.ext_getElem?
 intro j
 simp only [List.getElem?_take,List.getElem?_append,List.length_take,List.length_append,List.getElem?_drop,List.length_cons,List.length_nil,encL_single,hl]
 by_cases h1:j<i*2
 ·rw [Jb (show j<L.length*2 by omega),Jb (by omega),Jb (by omega),Jb (by omega),Jb (by omega),Jb (by omega),Jb (by omega)]
 ·by_cases h2:j=i*2
  ·subst h2
   rw [Jb (show i*2<L.length*2 by omega),Jb (by omega),Jb (by omega),Jb (by omega),Jb (by omega),Ja (by omega),ma]
   rw [show i*2 - min (i*2) (c*2)=0 by omega];rfl
  ·by_cases h3:j=i*2+1
   ·subst h3
    rw [Jb (show i*2+1<L.length*2 by omega),Jb (by omega),Ja (by omega),Jb (by omega),Ja (by omega)]
    rw [show i*2+1 - min (i*2+1) (c*2)=0 by omega,show i*2+1 - min (i*2) (c*2)=1 by omega];rfl
   ·by_cases h4:j<L.length*2
    ·rw [Jb h4,Ja (by omega),Ja (by omega)]
     rw [Jb (by omega)]
     congr 1
     omega
    ·rw [Ja h4,Ja (by omega)]
     rw [Ja (by omega)]
theorem set_name (D lo c:Nat) (o:Option Nat) (L:List En) (s:ByteArray) (v:Int) (w:World) (hm:s.size≤9223372036854775807) (h:Du w D lo o c L) (he:nerr s.data.toList≠0) :
  Calls Tryz.prog 96 #[Pq D,.string s,.int .i64 v] w (StepE w D lo o (.int .i64 (nerr s.data.toList)) L):=by
 have HN:=Qa (name_any s w hm)
 unfold NameE at HN
 have HF:=Qa (fun w' hb=>stepE_same (v:=.int .i64 (nerr s.data.toList)) (w':=w') h hb)
 generalize nerr s.data.toList=r at *
 have hr:(r != 0)=true:=by simpa using he
 have ma:(r == 0)=false:=by simpa using he
 clear h he
 go_enter Tryz.func96,Tryz.ntmps96
 go_wp2_with fail
 refine HN.out.mono ?_
 rintro e w2 ⟨rfl,hb2⟩
 go_wp2_with fail
 go_ret
 exact HF.out _ hb2
theorem Du.frozen {w:World} {D lo c G:Nat} {o:Option Nat} {L:List En} (h:Du w D lo o c L) (ho:o=some G) (k:Nat):w.frozen? ⟨G,k,none⟩=false:=by subst ho;exact h.row.2.2.frozen k
theorem set_dot (D lo c:Nat) (o:Option Nat) (L:List En) (s:ByteArray) (v:Int) (w:World) (hm:s.size≤9223372036854775807) (h:Du w D lo o c L) (he:nerr s.data.toList=0) (hd:dotB s=true∨v<1) :
  Calls Tryz.prog 96 #[Pq D,.string s,.int .i64 v] w (StepE w D lo o (.int .i64 22) L):=by
 have HN:=Qa (name_any s w hm)
 unfold NameE at HN
 rw [he] at HN
 have HF:=Qa (fun w' hb=>stepE_same (v:=.int .i64 22) (w':=w') h hb)
 unfold dotB at hd
 have ma:∃a,(s.toList == [46])=a:=⟨_,rfl⟩
 have qa:∃a,(s.toList == [46,46])=a:=⟨_,rfl⟩
 obtain ⟨q1,h1⟩:=ma
 obtain ⟨q2,h2⟩:=qa
 rw [h1,h2] at hd
 clear h he
 have ja:q1=true∨(q1=false∧q2=true)∨(q1=false∧q2=false∧v<1):=by
  cases q1 <;> cases q2 <;> simp at hd ⊢ <;> exact hd
 clear hd
 rcases ja with rfl|⟨rfl,rfl⟩|⟨rfl,rfl,hv⟩
 all_goals
  go_enter Tryz.func96,Tryz.ntmps96
  go_wp2_with fail
  refine HN.out.mono ?_
  rintro e w2 ⟨rfl,hb2⟩
  go_wp2_with fail
  go_ret
  exact HF.out _ hb2
theorem Du.old {w w2:World} {D lo c:Nat} {o:Option Nat} {L:List En} {s:ByteArray} {x:En} {v:Int} {G:Nat} (h:Du w2 D lo (some G) c L) (hx:L[pos s L]?=some x) (hs:x.1=s) (hb:Below w.heap.size w w2) (hD:D<w.heap.size) (ho:o=some G) :
  StepE w D lo o (.int .i64 0) (lset s v L) (.returned (.int .i64 0)) (w2.setCell ⟨G,pos s L*2+1,none⟩ (.int .i64 v)):=by
 subst ho
 rw [lset_old hx hs]
 have hr:=h.row.2.2.setNum hx v
 rw [hs] at hr
 refine ⟨rfl,some G,c,⟨?_,by simpa using h.f0,h.row.1,h.row.2.1,hr⟩,fun G e=>.inl e,?_⟩
 ·rw [World.cell?_setCell_other _ _ _ _ (fun e=>h.row.2.1 (by have:=congrArg Addr.block e;simpa using this.symm)),List.length_set];exact h.d0
 ·exact (Fr.below hb).trans (Fr.grown (grownBy_set w2 G _ _)) (fun k e=>.inl e)
theorem set_old (D lo c:Nat) (o:Option Nat) (L:List En) (s:ByteArray) (v:Int) (w:World) (hm:s.size≤9223372036854775807) (h:Du w D lo o c L) (hs:Sorted L) (hN:L.length≤1000000) (he:nerr s.data.toList=0) (hd:dotB s=false) (hv:¬v<1) (ht:thereB s L=true) :
  Calls Tryz.prog 96 #[Pq D,.string s,.int .i64 v] w (StepE w D lo o (.int .i64 0) (lset s v L)):=by
 have Qb:=Qa (name_any s w hm)
 unfold NameE at Qb
 rw [he] at Qb
 have HP:=Qa (fun W (hb:Below w.heap.size w W)=>place_any D lo c o L s W hs hN (h.below hb))
 unfold PlaceE at HP
 rw [ht] at HP
 obtain ⟨x,hx,hxs,hl⟩:=there_yes hs ht
 have hk:=(List.getElem?_eq_some_iff.1 hx).1
 have HX:=Qa (fun W (hb:Below w.heap.size w W)=>(h.below hb).at_ hx)
 have HD:=Qa (fun W (hb:Below w.heap.size w W)=>(h.below hb))
 have HF:=Qa (fun W G (hb:Below w.heap.size w W) (ho:o=some G)=>Du.old (w:=w) (v:=v) (o:=o) (by rw [←ho];exact h.below hb) hx hxs hb h.lt ho)
 have hq:(s.toList == [46])=false∧(s.toList == [46,46])=false:=by simpa [dotB] using hd
 obtain ⟨h1,h2⟩:=hq
 have Qc:=Qa (fun W (hb:Below w.heap.size w W) G (ho:o=some G) k=>(h.below hb).frozen ho k)
 have Qd:=Qa (fun W (hb:Below w.heap.size w W)=>(h.below hb).d0)
 generalize pos s L=k at *
 generalize lset s v L=K at *
 generalize L.length=n at *
 clear h hs he hd ht hx hxs hl
 go_enter Tryz.func96,Tryz.ntmps96
 go_wp2_with fail
 refine Qb.out.mono ?_
 rintro e w2 ⟨rfl,hb2⟩
 have Qe:=Qa (HP.out _ hb2)
 have Qf:=Qa hb2
 clear hb2 HP Qb
 go_wp2_with fail
 refine Qe.out.mono ?_
 rintro e w3 ⟨rfl,hb3⟩
 have ma:=below_step Qf.out hb3
 obtain ⟨G,ho,f0,f1⟩:=HX.out w3 ma
 have d0:=Qd.out w3 ma
 have z0:=Qc.out w3 ma G ho (k*2+1)
 have HR:=Qa (HF.out w3 G ma ho)
 rw [ho] at d0
 clear Qe hb3 ma HX HD Qc Qd HF f0
 go_wp2_with fail
 go_ret
 exact HR.out
theorem Du.sl {w:World} {D lo c:Nat} {o:Option Nat} {L:List En} (h:Du w D lo o c L):Sl w lo o c L:=by
 cases o with
 | none=>exact h.row
 | some G=>exact ⟨h.row.1,h.row.2.2⟩
theorem lset_len {s:ByteArray} {v:Int} {L:List En} (h:∀x,L[pos s L]?=some x→x.1≠s):(lset s v L).length=L.length+1:=by
 rw [lset_new h];simp;have:=pos_le s L;omega
theorem Du.stored {w W w4:World} {D lo c:Nat} {o:Option Nat} {L K:List En} {n:Nat} {e:Ending} {vv:Value} (h:Du w D lo o c L) (hb:Below w.heap.size w W) (hK:K.length=n+1) (hi:InsE W lo o n K e w4) :
  w4.cell? ⟨D,0,none⟩=some (.slice (Ao o) L.length c)∧w4.frozen? ⟨D,0,none⟩=false∧∃G c',e=.returned (.slice (some ⟨G,0,none⟩) (n+1) c') ∧
   StepE w D lo o vv K (.returned vv) (w4.setCell ⟨D,0,none⟩ (.slice (some ⟨G,0,none⟩) (n+1) c')):=by
 obtain ⟨G,c',he,hr,hlo,hat,hg⟩:=hi
 have hD:=h.lt
 have ja:D<W.heap.size:=Nat.lt_of_lt_of_le hD hb.size
 have xa:some D≠o:=fun e=>(h.glt D e.symm).2.2 rfl
 have ma:w4.heap[D]?=w.heap[D]?:=(hg.block D ja xa).trans (hb.block D hD)
 have c0:=(World.cell?_of_block (a:=⟨D,0,none⟩) ma).trans h.d0
 have c1:=(World.frozen?_of_block (a:=⟨D,0,none⟩) ma).trans h.f0
 have qa:D≠G:=by
  rcases hat with e|e
  ·exact (h.glt G e).2.2
  ·omega
 refine ⟨c0,c1,G,c',he,rfl,some G,c',⟨?_,by simpa using c1,hlo,qa,hr.of_block (Below.heap_setCell _ _ _ _ (fun e=>qa (by simpa using e.symm)))⟩,fun G' e=>?_,?_⟩
 ·rw [World.cell?_setCell_same _ _ _ c0,hK];rfl
 ·injection e with e;subst e;exact hat.imp id (fun e=>Nat.le_trans hb.size e)
 ·exact ((Fr.below hb).trans (Fr.grown (Q:=D) hg) (fun k e=>.inl e)).trans (Fr.setQ w4 D o _) (fun k e=>.inl e)
theorem set_new (D lo c:Nat) (o:Option Nat) (L:List En) (s:ByteArray) (v:Int) (w:World) (hm:s.size≤9223372036854775807) (h:Du w D lo o c L) (hlo:lo≤w.heap.size) (hs:Sorted L) (hN:L.length≤900000) (he:nerr s.data.toList=0) (hd:dotB s=false) (hv:¬v<1) (ht:thereB s L=false) :
  Calls Tryz.prog 96 #[Pq D,.string s,.int .i64 v] w (StepE w D lo o (.int .i64 0) (lset s v L)):=by
 have Qc:=Qa (name_any s w hm)
 unfold NameE at Qc
 rw [he] at Qc
 have HP:=Qa (fun W (hb:Below w.heap.size w W)=>place_any D lo c o L s W hs (by omega) (h.below hb))
 unfold PlaceE at HP
 rw [ht] at HP
 obtain ⟨hl,hno⟩:=there_no hs ht
 have Qd:=Qa (fun W (hb:Below w.heap.size w W)=>(h.below hb).d0)
 have HI:=Qa (fun W (hb:Below w.heap.size w W)=>ins_any c lo (pos s L) W.heap.size 1 o L (s,v) (W.alloc (.cells #[.string s,.int .i64 v] 125)) (pos_le s L) (by omega) (by simp;have:=hb.size;omega)
  ((h.below (below_step hb (below_alloc W _))).sl) (heap_alloc_new W _) (fun e=>by have:=(h.glt _ e).1;have:=hb.size;omega))
 rw [←lset_new hno] at HI
 have Qe:=Qa (fun W w4 e (hb:Below w.heap.size w W) hi=>Du.stored (W:=W) (w4:=w4) (e:=e) (n:=L.length) (vv:=.int .i64 0) h hb (lset_len (v:=v) hno) hi)
 have hq:(s.toList == [46])=false∧(s.toList == [46,46])=false:=by simpa [dotB] using hd
 obtain ⟨h1,h2⟩:=hq
 generalize pos s L=k at *
 generalize lset s v L=K at *
 generalize L.length=n at *
 clear h hs he hd ht hl hno
 go_enter Tryz.func96,Tryz.ntmps96
 go_wp2_with fail
 refine Qc.out.mono ?_
 rintro e w2 ⟨rfl,hb2⟩
 have Qf:=Qa (HP.out _ hb2)
 have Qh:=Qa hb2
 clear hb2 HP Qc
 go_wp2_with fail
 refine Qf.out.mono ?_
 rintro e w3 ⟨rfl,hb3⟩
 have ma:=below_step Qh.out hb3
 have d0:=Qd.out w3 ma
 have Qg:=Qa (HI.out w3 ma)
 have Qb:=Qa (fun w4 e hi=>Qe.out (w3.alloc (.cells #[.string s,.int .i64 v] 125)) w4 e (below_step ma (below_alloc w3 _)) hi)
 clear Qf hb3 ma Qd HI Qe
 go_wp2_with fail
 refine Qg.out.mono ?_
 intro e w4 hi
 obtain ⟨c0,c1,G,c',rfl,hst⟩:=Qb.out w4 e hi
 have HR:=Qa hst
 clear hi hst Qg Qb d0
 go_wp2_with fail
 go_ret
 exact HR.out
theorem set_any (D lo c:Nat) (o:Option Nat) (L:List En) (s:ByteArray) (v:Int) (w:World) (hm:s.size≤9223372036854775807) (h:Du w D lo o c L) (hlo:lo≤w.heap.size) (hs:Sorted L) (hN:L.length≤900000) :
  Calls Tryz.prog 96 #[Pq D,.string s,.int .i64 v] w (StepE w D lo o (.int .i64 (serr s v)) (lsetE s v L)):=by
 unfold lsetE serr
 by_cases he:nerr s.data.toList=0
 ·rw [Ja (by simpa using he)]
  by_cases hd:dotB s=true∨v<1
  ·rw [Jb hd,Ja (by decide)]
   exact set_dot D lo c o L s v w hm h he hd
  ·rw [Ja hd,Jb rfl]
   have ma:dotB s=false:=by simpa using fun e=>hd (.inl e)
   have hv:¬v<1:=fun e=>hd (.inr e)
   cases ht:thereB s L
   ·exact set_new D lo c o L s v w hm h hlo hs hN he ma hv ht
   ·exact set_old D lo c o L s v w hm h hs (by omega) he ma hv ht
 ·rw [Jb (by simpa using he),Ja he]
  exact set_name D lo c o L s v w hm h he
theorem ERow.spoil {w:World} {G c o:Nat} {K:List En} {vs:List Value} (h:ERow w G c K) (ho:K.length*2≤o) (hfit:o+vs.length≤c*2) (h1:∀v∈vs,v.oneCell'=true):ERow (w.setCells G o vs) G c K :=
 h.sets hfit h1 h.1 fun X hl ht=>by
  rw [List.append_assoc,List.take_append_of_le_length (by rw [List.length_take];omega),List.take_take,Nat.min_eq_left ho,ht]
theorem run_clear2 (w:World) (G o n:Nat) (hn:0<n) (hc:∀j,j<n*2→(w.cell? ⟨G,o+j,none⟩).isSome=true) (hf:∀j,w.frozen? ⟨G,j,none⟩=false) :
  ∃vs,vs.length=n*2∧(∀v∈vs,v.oneCell'=true)∧∀ty c,(Builtin.clear_ #[89] ty #[.slice (some ⟨G,o,none⟩) n c]).run Tryz.prog w=.ok (.tuple #[]) (w.setCells G o vs):=by
 have hz:(Ev (⟨#[]⟩,0)).cells=#[.string ⟨#[]⟩,.int .i64 0]:=rfl
 have ma:∀v∈(Builtin.zeroCells (Ev (⟨#[]⟩,0)).cells n).toList,v.oneCell'=true:=by
  intro v hv
  rw [hz] at hv
  simp only [Builtin.zeroCells,Array.toList_map,List.mem_map] at hv
  obtain ⟨i,_,rfl⟩:=hv
  have:i % 2=0∨i % 2=1:=by omega
  rcases this with e|e <;> simp [e] <;> rfl
 have qa:(Builtin.zeroCells (Ev (⟨#[]⟩,0)).cells n).toList.length=n*2:=by rw [hz];simp [Builtin.zeroCells]
 have ja:=run_storeCells_cells (P:=Tryz.prog) G o (Builtin.zeroCells (Ev (⟨#[]⟩,0)).cells n).toList 0 w (fun j hj=>by rw [Nat.add_zero];exact hc j (by omega)) (fun j hj=>hf _) ma
 rw [Nat.add_zero] at ja
 refine ⟨(Builtin.zeroCells (Ev (⟨#[]⟩,0)).cells n).toList,qa,ma,fun ty c=>?_⟩
 have zero37:∀w:World,(zeroValue 125).run Tryz.prog w=.ok (Ev (⟨#[]⟩,0)) w:=fun w=>by kernel_rfl
 obtain ⟨m,rfl⟩:∃m,n=m+1:=⟨n - 1,by omega⟩
 simp [Builtin.clear_,run_underlying Tryz.underlying89,zero37,ja]
def DelE (w:World) (G c:Nat) (K:List En) (e:Ending) (w':World):Prop:=e=.returned (.slice (some ⟨G,0,none⟩) K.length c)∧ERow w' G c K∧w.grownBy w' (some G)
theorem erase_row {w:World} {G c i:Nat} {L:List En} (h:ERow w G c L) (hi:i<L.length):ERow (w.setCells G (i*2) (encL (L.drop (i+1)))) G c (L.eraseIdx i):=by
 have h1:=h.1
 have ma:(encL (L.drop (i+1))).length=(L.length - (i+1))*2:=by rw [encL_length,List.length_drop]
 refine h.sets (by rw [ma];omega) (encL_one _) (by rw [List.length_eraseIdx];split <;> omega) fun X hl ht=>?_
 rw [List.length_eraseIdx,Jb hi,List.eraseIdx_eq_take_drop_succ,encL_append,←encL_take,←ht,List.take_take,Nat.min_eq_left (by omega),List.take_append_of_le_length,List.take_of_length_le]
 ·rw [List.length_append,List.length_take,ma];omega
 ·rw [List.length_append,List.length_take,ma];omega
theorem del_any (G c i:Nat) (L:List En) (w:World) (hi:i<L.length) (hN:L.length≤1000000) (h:ERow w G c L) :
  Calls Tryz.prog 184 #[.slice (some ⟨G,0,none⟩) L.length c,.int .i64 i,.int .i64 ((i:Int)+1)] w (DelE w G c (L.eraseIdx i)):=by
 obtain ⟨i0,hi0,hz0,hz1,hz2⟩:=info_parts info37
 have ja:c≤9223372036854775807:=h.2.1
 have ba:=h.1
 have ma:(encL (L.drop (i+1))).length=(L.length - (i+1))*2:=by rw [encL_length,List.length_drop]
 have hE:=Qa (erase_row (w:=w.drew) (h.of_block rfl) hi)
 have qa:(L.eraseIdx i).length=L.length - 1:=by rw [List.length_eraseIdx,Jb hi]
 have hg:w.grownBy (w.drew.setCells G (i*2) (encL (L.drop (i+1)))) (some G):=grownBy_trans (grownBy_drew _ _) (grownBy_sets _ _ _ _)
 have Qb:=Qa (fun (hc:c≠i+1)=>(show ∀j u,(encL (L.drop (i+1)))[j]?=some u→w.drew.cell? ((⟨G,(i+1)*2,none⟩:Addr).add j)=some u from fun j u hj=>by
  rw [Addr.add_lit];exact h.cells (by rw [←encL_drop,List.getElem?_drop] at hj;exact hj)))
 have Qc:=Qa (fun (hc:c=i+1)=>(show ∀j u,(encL (L.drop (i+1)))[j]?=some u→w.drew.cell? ((⟨G,0,none⟩:Addr).add j)=some u from fun j u hj=>by
  rw [List.drop_eq_nil_of_le (by omega)] at hj;simp [encL] at hj))
 have Qe:=Qa (fun j (hj:j<(encL (L.drop (i+1))).length)=>(⟨h.some_ (by rw [ma] at hj;omega),h.frozen _⟩:(w.drew.cell? ⟨G,0+i*2+j,none⟩).isSome=true∧w.drew.frozen? ⟨G,0+i*2+j,none⟩=false))
 have H1:=Qa (encL_one (L.drop (i+1)))
 obtain ⟨W2,hW2⟩:∃W2,W2=w.drew.setCells G (i*2) (encL (L.drop (i+1))):=⟨_,rfl⟩
 rw [←hW2] at hE hg
 obtain ⟨vs,hvl,hv1,hcl⟩:=run_clear2 W2 G ((L.length - 1)*2) 1 (by omega) (fun j hj=>hE.out.some_ (by omega)) hE.out.frozen
 have HF:=Qa (show DelE w G c (L.eraseIdx i) (.returned (.slice (some ⟨G,0,none⟩) (L.length - 1) c)) (W2.setCells G ((L.length - 1)*2) vs) from
  ⟨by rw [qa],hE.out.spoil (by rw [qa];exact Nat.le_refl _) (by rw [hvl];omega) hv1,grownBy_trans hg (grownBy_sets _ _ _ _)⟩)
 have Qd:=Qa ma
 have HW:=Qa hW2
 generalize L.eraseIdx i=K at *
 generalize encL (L.drop (i+1))=cx at *
 generalize hn:L.length=n at *
 have fa:((i:Int) == (i:Int)+1)=false:=by rw [beq_eq_false_iff_ne];omega
 have xa:¬((i:Int)=(i:Int)+1):=by omega
 have kb:((i:Int)+1).toNat=i+1:=by omega
 have mb:(i:Int)+1≤(n:Int):=by omega
 have jb:(i:Int)+1≤(c:Int):=by omega
 clear hn h hE hg hvl hv1 qa ma hW2 hz0
 have pb:i≤c:=by omega
 have ya:(0:Int)≤(i:Int)+1:=by omega
 have da:(i:Int)≤(i:Int)+1:=by omega
 by_cases hce:c=i+1
 ·have HS:=Qa (Qc.out hce)
  clear Qb Qc
  subst hce
  obtain rfl:n=i+1:=by omega
  rw [show i+1 - 1=i from rfl] at HF hcl
  have ga:=Qa (show w.drew=W2 by rw [HW.out,List.eq_nil_of_length_eq_zero (show cx.length=0 by have:=Qd.out;omega)];rfl)
  go_enter Tryz.func184,Tryz.ntmps184
  go_wp2_with fail
  go_region
  rw [ga.out]
  go_wp2_with fail
  go_ret
  exact HF.out
 ·have HS:=Qa (Qb.out hce)
  clear Qb Qc
  obtain ⟨m,rfl⟩:∃m,n=m+1:=⟨n - 1,by omega⟩
  rw [show m+1 - 1=m from rfl] at HF hcl
  have sa:=Qa (show cx.length=(m - i)*2 by have:=Qd.out;omega)
  have xb:i≤m:=by omega
  have yb:m≤c:=by omega
  have la:m≠c:=by omega
  go_enter Tryz.func184,Tryz.ntmps184
  go_wp2_with fail
  go_region_law (refine step_append_room rfl _ _ 89 rfl 125 i0 2 Tryz.underlying89 hi0 hz1 G 0 i c (by simp [Act.eval,Act.put]) ⟨G,(i+1)*2,none⟩ (m - i) (c - (i+1)) cx (by simp [Act.eval,Act.put]) sa.out HS.out H1.out (by omega) Qe.out ?_)
  rw [←HW.out]
  go_wp2_with fail
  go_ret
  exact HF.out
theorem Du.cut {w W w4:World} {D lo c G:Nat} {o:Option Nat} {L K:List En} {e:Ending} {vv:Value} (h:Du w D lo o c L) (ho:o=some G) (hb:Below w.heap.size w W) (hi:DelE W G c K e w4) :
  w4.cell? ⟨D,0,none⟩=some (.slice (Ao o) L.length c)∧w4.frozen? ⟨D,0,none⟩=false∧e=.returned (.slice (some ⟨G,0,none⟩) K.length c) ∧
   StepE w D lo o vv K (.returned vv) (w4.setCell ⟨D,0,none⟩ (.slice (some ⟨G,0,none⟩) K.length c)):=by
 subst ho
 obtain ⟨he,hr,hg⟩:=hi
 have hD:=h.lt
 have ja:D<W.heap.size:=Nat.lt_of_lt_of_le hD hb.size
 have qa:D≠G:=h.row.2.1
 have xa:some D≠some G:=fun e=>qa (by injection e)
 have ma:w4.heap[D]?=w.heap[D]?:=(hg.block D ja xa).trans (hb.block D hD)
 have c0:=(World.cell?_of_block (a:=⟨D,0,none⟩) ma).trans h.d0
 have c1:=(World.frozen?_of_block (a:=⟨D,0,none⟩) ma).trans h.f0
 refine ⟨c0,c1,he,rfl,some G,c,⟨?_,by simpa using c1,h.row.1,qa,hr.of_block (Below.heap_setCell _ _ _ _ (fun e=>qa (by simpa using e.symm)))⟩,fun G' e=>.inl e,?_⟩
 ·rw [World.cell?_setCell_same _ _ _ c0];rfl
 ·exact ((Fr.below hb).trans (Fr.grown (Q:=D) hg) (fun k e=>.inl e)).trans (Fr.setQ w4 D _ _) (fun k e=>.inl e)
theorem ddel_any (D lo c:Nat) (o:Option Nat) (L:List En) (s:ByteArray) (w:World) (h:Du w D lo o c L) (hs:Sorted L) (hN:L.length≤1000000) :
  Calls Tryz.prog 143 #[Pq D,.string s] w (StepE w D lo o (getV s L) (ldel s L)):=by
 have HP:=Qa (place_any D lo c o L s w hs hN h)
 unfold PlaceE at HP
 cases ht:thereB s L
 ·obtain ⟨hl,hno⟩:=there_no hs ht
  rw [ht] at HP
  have HF:=Qa (fun W (hb:Below w.heap.size w W)=>(show StepE w D lo o (getV s L) (ldel s L) (.returned (.tuple #[.int .i64 0,.int .i64 2])) W by
   rw [ldel_no hl];unfold getV;rw [hl];exact stepE_same h hb))
  generalize pos s L=k at *
  generalize getV s L=r at *
  generalize ldel s L=K at *
  clear h hs hN ht hl hno
  go_enter Tryz.func143,Tryz.ntmps143
  go_wp2_with fail
  refine HP.out.mono ?_
  rintro e w2 ⟨rfl,hb2⟩
  go_wp2_with fail
  go_ret2
  exact HF.out _ hb2
 ·obtain ⟨x,hx,hxs,hl⟩:=there_yes hs ht
  rw [ht] at HP
  have hk:=(List.getElem?_eq_some_iff.1 hx).1
  obtain ⟨G,ho,-,-⟩:=h.at_ hx
  have HX:=Qa (fun W (hb:Below w.heap.size w W)=>(show W.cell? ⟨G,pos s L*2+1,none⟩=some (.int .i64 x.2) by
   obtain ⟨G',ho',-,f1⟩:=(h.below hb).at_ hx
   rw [ho] at ho';injection ho' with e;subst e;exact f1))
  have Qc:=Qa (fun W (hb:Below w.heap.size w W)=>(h.below hb).d0)
  have HI:=Qa (fun W (hb:Below w.heap.size w W)=>del_any G c (pos s L) L W hk hN (by have:=(h.below hb).row;subst ho;exact this.2.2))
  have Qd:=Qa (fun W w4 e (hb:Below w.heap.size w W) hi=>Du.cut (W:=W) (w4:=w4) (e:=e) (K:=L.eraseIdx (pos s L)) (vv:=getV s L) h ho hb hi)
  have HV:=Qa (show getV s L=.tuple #[.int .i64 x.2,.int .i64 0] by unfold getV;rw [hl])
  rw [ldel_at hs hx hxs]
  have ma:(L.eraseIdx (pos s L)).length≤L.length:=List.length_eraseIdx_le ..
  generalize getV s L=r at *
  generalize L.eraseIdx (pos s L)=K at *
  generalize pos s L=k at *
  generalize L.length=n at *
  obtain ⟨xs,xv⟩:=x
  dsimp only at *
  rw [ho] at Qc
  have HO:=Qa ho
  clear h hs ht hl hx hxs ho
  go_enter Tryz.func143,Tryz.ntmps143
  go_wp2_with fail
  refine HP.out.mono ?_
  rintro e w2 ⟨rfl,hb2⟩
  have f1:=HX.out w2 hb2
  have d0:=Qc.out w2 hb2
  have Qe:=Qa (HI.out w2 hb2)
  have Qb:=Qa (fun w4 e hi=>Qd.out w2 w4 e hb2 hi)
  clear hb2 HP HX Qc HI Qd
  go_wp2_with fail
  refine Qe.out.mono ?_
  intro e w4 hi
  obtain ⟨c0,c1,rfl,hst⟩:=Qb.out w4 e hi
  have HR:=Qa hst
  clear hi hst Qe Qb d0 f1
  go_wp2_with fail
  go_ret2
  rw [HV.out] at HR ⊢
  exact HR.out
theorem run_eql_nil (w:World) (a:Option Addr) (l c:Nat):(binOp .eql 89 (.slice a l c) (.slice none 0 0)).run Tryz.prog w=.ok (.bool a.isNone) w:=by
 simp only [binOp]
 simp [run_equal_slice_nil w 89 125 a l c Tryz.underlying89]
def AllE (w:World) (L:List En) (e:Ending) (w':World):Prop:=∃o c',e=.returned (.slice (Ao o) L.length c')∧L.length≤c'∧c'≤maxLen∧Sl w' w.heap.size o c' L∧Below w.heap.size w w'
theorem allE_app {w w':World} {n g cap:Nat} {L:List En} {ob:Obj} (hn:n=L.length) (hown:w'.ownsRow w.heap.size 125 2 (.slice (some ⟨g,0,none⟩) (0+n) cap) (0+n) ([]++encL L))
  (hgr:(w.alloc ob).grownBy w' (Value.slice (some ⟨w.heap.size,0,none⟩) 0 0).ownBlock):AllE w L (.returned (.slice (some ⟨g,0,none⟩) (0+n) cap)) w':=by
 rw [Nat.zero_add,List.nil_append] at hown
 obtain ⟨h1,h2⟩:=ERow.of_owns hown hn
 refine ⟨some g,cap,by rw [Nat.zero_add,hn];rfl,h1.1,h1.2.1,⟨h2,h1⟩,?_⟩
 have hb:=below_alloc w ob
 exact ⟨hgr.os.trans hb.os,hgr.tape.trans hb.tape,hgr.output.trans hb.output,Nat.le_trans hb.size hgr.size,fun k hk=>(hgr.block k (Nat.lt_of_lt_of_le hk hb.size) (fun e=>by simp [Value.ownBlock] at e;omega)).trans (hb.block k hk)⟩
theorem clone_any (c lo:Nat) (o:Option Nat) (L:List En) (w:World) (hN:L.length≤1000000) (h:Sl w lo o c L) :
  Calls Tryz.prog 179 #[.slice (Ao o) L.length c] w (AllE w L):=by
 obtain ⟨i0,hi,hz0,hz1,hz2⟩:=info_parts info37
 have ma:=run_eql_nil
 cases o with
 | none =>
  obtain ⟨rfl,rfl⟩:=h
  have HF:=Qa (show AllE w [] (.returned (.slice none 0 0)) w from ⟨none,0,rfl,Nat.le_refl _,by unfold maxLen;omega,⟨rfl,rfl⟩,Below.refl _ _⟩)
  clear hi hz0 hz1 hz2
  go_enter Tryz.func179,Tryz.ntmps179
  go_wp2_with fail
  go_ret
  exact HF.out
 | some G =>
  obtain ⟨xa,hr⟩:=h
  by_cases h0:L=[]
  ·subst h0
   have HF:=Qa (fun ob (hob:ob=Obj.cells #[] 125 (0,0))=>(show AllE w [] (.returned (.slice (some ⟨w.heap.size,0,none⟩) 0 0)) (w.alloc ob) from ⟨some w.heap.size,0,rfl,Nat.le_refl _,by unfold maxLen;omega,⟨Nat.le_refl _,⟨Nat.le_refl _,by unfold maxLen;omega,[],by subst hob;exact heap_alloc_new w _,rfl,rfl⟩⟩,below_alloc _ _⟩))
   go_enter Tryz.func179,Tryz.ntmps179
   go_wp2_with fail
   go_ret
   exact HF.out _ rfl
  ·have qa:0<L.length:=List.length_pos_iff.2 h0
   have ja:=hr.lt
   have HO:=Qa (show (w.alloc (.cells #[] 125)).ownsRow w.heap.size 125 2 (.slice (some ⟨w.heap.size,0,none⟩) 0 0) 0 [] from ⟨rfl,.inr ⟨w.heap.size,0,#[],rfl,Nat.le_refl _,heap_alloc_new w _,Nat.le_refl _,by unfold maxLen;omega,rfl,rfl⟩⟩)
   have HX:=Qa (fun ob=>(show ∀j u,(encL L)[j]?=some u→(w.alloc ob).cell? ((⟨G,0,none⟩:Addr).add j)=some u from fun j u hj=>by
    rw [Addr.add_lit,Nat.zero_add,(below_alloc w ob).cell (p:=⟨G,j,none⟩) ja];exact hr.cells hj))
   have HF:=Qa (fun w' g cap ob a b=>allE_app (w:=w) (w':=w') (g:=g) (cap:=cap) (ob:=ob) (L:=L) rfl a b)
   have HL:=Qa (encL_length L)
   have H1:=Qa (encL_one L)
   generalize hn:L.length=n at *
   generalize encL L=cl at *
   have HN:=Qa hn
   clear hn hr h0
   go_enter Tryz.func179,Tryz.ntmps179
   go_wp2_with (at_builtin;refine wpList_append_lies _ (by rfl) _ _ _ (by rfl) w.heap.size 125 i0 _ 2 24 Tryz.underlying89 hi hz0 hz1 hz2 (by rfl) (by decide) _ _ [] (by rfl) HO.out ⟨G,0,none⟩ n c cl (by rfl) HL.out (HX.out _) H1.out (by omega) (by unfold maxLen;omega) (by omega) (by simp) _ rfl ?_;intro gg cap w3 hown1 hgrow hat hlt3)
   go_ret
   first|exact HF.out _ _ _ _ hown1 hgrow|(rw [Nat.zero_add] at *;exact HF.out _ _ _ _ hown1 hgrow)
theorem all_any (D lo c:Nat) (o:Option Nat) (L:List En) (w:World) (hN:L.length≤1000000) (h:Du w D lo o c L) :
  Calls Tryz.prog 130 #[Pq D] w (AllE w L):=by
 have HC:=Qa (clone_any c lo o L w hN h.sl)
 have d0:=h.d0
 generalize L.length=n at *
 clear h
 go_enter Tryz.func130,Tryz.ntmps130
 go_wp2_with fail
 refine HC.out.mono ?_
 intro e w2 hE
 obtain ⟨o2,c2,rfl,h2⟩:=id hE
 have HE:=Qa hE
 clear hE h2
 go_wp2_with fail
 go_ret
 exact HE.out
def Same (X:Nat→Prop) (w w':World):Prop:=∀b,X b→w'.heap[b]?=w.heap[b]?
theorem getD_data (s:ByteArray) (j:Nat) (h:j<s.size):s[j]=s.data.toList[j]'(by rw [←Lib.size_eq];exact h):=by rfl
theorem rhas_any (s:ByteArray) (c:UInt8) (b:Bool) (w:World) (hm:s.size≤9223372036854775807) (hb:decide (c∈s.data.toList)=b):Calls Tryz.prog 212 #[.string s,.int .u8 (c.toNat:Int)] w fun e w'=>e=.returned (.bool b)∧w=w':=by
 have HB:=Qa hb
 clear hb
 go_enter Tryz.func212,Tryz.ntmps212
 go_wp2_with fail
 go_loopg [5] s.size (fun g i wr=>∃j:Nat,j≤s.size∧g+j=s.size∧i=.int .i64 j∧Hid (∀x∈s.data.toList.take j,x≠c)∧w=wr)
 case atStart=>exact ⟨0,by omega,by omega,rfl,(by show ∀_,_;simp),rfl⟩
 case round =>
  obtain ⟨j,hj,hg,rfl,HN,rfl⟩:=hrel
  by_cases hjl:j<s.size
  ·have qa:j<s.data.toList.length:=by rw [←Lib.size_eq];exact hjl
   by_cases h:s[j]=c
   ·have hT:(((s[j]).toNat:Int) == (c.toNat:Int))=true:=by rw [h];simp
    have ma:b=true:=by
     rw [←HB.out]
     exact decide_eq_true (by rw [←h,getD_data s j hjl];exact List.getElem_mem _)
    subst ma
    clear h
    go_wp2_with fail
    try rw [Exit.noGoto_ret]
    go_ret
    exact ⟨rfl,rfl⟩
   ·have hT:(((s[j]).toNat:Int) == (c.toNat:Int))=false:=by
     rw [beq_eq_false_iff_ne]
     intro e
     exact h (UInt8.toNat_inj.1 (by omega))
    have Qb:Hid (∀x∈s.data.toList.take (j+1),x≠c):=by
     show ∀_,_
     rw [List.take_succ_eq_append_getElem qa]
     intro x hx
     rw [List.mem_append,List.mem_singleton] at hx
     rcases hx with hx|rfl
     ·exact HN.out x hx
     ·rw [←getD_data s j hjl];exact h
    clear h
    go_wp2_with fail
    go_roundg (gk - 1)
    case measure=>omega
    case rel=>exact ⟨j+1,by omega,by omega,by go_num,Qb,rfl⟩
  ·have ma:b=false:=by
    rw [←HB.out]
    refine decide_eq_false (fun hc=>?_)
    have:=HN.out c (by rw [List.take_of_length_le (by rw [←Lib.size_eq];omega)];exact hc)
    exact this rfl
   subst ma
   have ja:¬((j:Int)<(s.size:Int)):=by omega
   clear hjl
   go_wp2_with fail
   go_ret
   exact ⟨rfl,rfl⟩
theorem rhas0 (s:ByteArray) (b:Bool) (w:World) (hm:s.size≤9223372036854775807) (hb:decide ((0:UInt8)∈s.data.toList)=b):Calls Tryz.prog 212 #[.string s,.int .u8 0] w fun e w'=>e=.returned (.bool b)∧w=w':=rhas_any s 0 b w hm hb
theorem rhas47 (s:ByteArray) (b:Bool) (w:World) (hm:s.size≤9223372036854775807) (hb:decide ((47:UInt8)∈s.data.toList)=b):Calls Tryz.prog 212 #[.string s,.int .u8 47] w fun e w'=>e=.returned (.bool b)∧w=w':=rhas_any s 47 b w hm hb
theorem rname_any (s:ByteArray) (w:World) (hm:s.size≤9223372036854775807):Calls Tryz.prog 162 #[.string s] w (NameE w s.data.toList):=by
 by_cases h0:s.size=0
 ·have HR:=Qa (show nerr s.data.toList=2 by unfold nerr;rw [Jb (List.eq_nil_of_length_eq_zero (by rw [←Lib.size_eq];exact h0))])
  go_enter Tryz.func162,Tryz.ntmps162
  go_wp2_with fail
  go_ret
  exact ⟨by rw [HR.out];rfl,Below.refl _ _⟩
 ·have ma:s.data.toList≠[]:=fun e=>h0 (by rw [Lib.size_eq,e];rfl)
  by_cases h60:60<s.size
  ·have HR:=Qa (show nerr s.data.toList=36 by unfold nerr;rw [Ja ma,Jb (by rw [←Lib.size_eq];exact h60)])
   clear ma
   go_enter Tryz.func162,Tryz.ntmps162
   go_wp2_with fail
   go_ret
   exact ⟨by rw [HR.out];rfl,Below.refl _ _⟩
  ·have HF:=Qa (show nerr s.data.toList=if (decide ((0:UInt8)∈s.data.toList) || decide ((47:UInt8)∈s.data.toList))=true then 22 else 0 by
    unfold nerr;rw [Ja ma,Ja (by rw [←Lib.size_eq];exact h60)];simp)
   clear ma
   have hA:=fun w=>rhas0 s _ w hm rfl
   have hB:=fun w=>rhas47 s _ w hm rfl
   generalize decide ((0:UInt8)∈s.data.toList)=b0 at *
   generalize decide ((47:UInt8)∈s.data.toList)=b47 at *
   unfold NameE
   cases b0
   ·cases b47
    ·go_enter Tryz.func162,Tryz.ntmps162
     go_wp2_with fail
     refine (hA _).mono ?_
     rintro e w' ⟨rfl,rfl⟩
     go_wp2_with fail
     refine (hB _).mono ?_
     rintro e w' ⟨rfl,rfl⟩
     go_wp2_with fail
     go_ret
     exact ⟨by rw [HF.out];rfl,Below.refl _ _⟩
    ·go_enter Tryz.func162,Tryz.ntmps162
     go_wp2_with fail
     refine (hA _).mono ?_
     rintro e w' ⟨rfl,rfl⟩
     go_wp2_with fail
     refine (hB _).mono ?_
     rintro e w' ⟨rfl,rfl⟩
     go_wp2_with fail
     go_ret
     exact ⟨by rw [HF.out];rfl,Below.refl _ _⟩
   ·go_enter Tryz.func162,Tryz.ntmps162
    go_wp2_with fail
    refine (hA _).mono ?_
    rintro e w' ⟨rfl,rfl⟩
    go_wp2_with fail
    go_ret
    exact ⟨by rw [HF.out];rfl,Below.refl _ _⟩
theorem bl_pre (p a b:Bs):Op.bytesLess (p++a) (p++b)=Op.bytesLess a b:=by
 induction p with
 | nil=>rfl
 | cons x p ih=>simp [Op.bytesLess,ih]
theorem bl_at (a b:Bs) (j:Nat) (h:a.take j=b.take j):Op.bytesLess a b=Op.bytesLess (a.drop j) (b.drop j):=by
 conv=>lhs;rw [←List.take_append_drop j a,←List.take_append_drop j b,h]
 exact bl_pre _ _ _
theorem bl_head (x y:UInt8) (a b:Bs) (h:x≠y):Op.bytesLess (x::a) (y::b)=decide (x.toNat<y.toNat):=by
 have h2:(x == y)=false:=by simpa using h
 simp only [Op.bytesLess,h2,Bool.false_and,Bool.or_false]
 by_cases hl:x<y
 ·rw [decide_eq_true hl,decide_eq_true (UInt8.lt_iff_toNat_lt.1 hl)]
 ·rw [decide_eq_false hl,decide_eq_false (fun e=>hl (UInt8.lt_iff_toNat_lt.2 e))]
theorem bl_nil (a b:Bs) (h:a=[]∨b=[]):Op.bytesLess a b=decide (a.length<b.length):=by
 cases a with
 | nil=>cases b <;> simp [Op.bytesLess]
 | cons x a =>
  rcases h with h|h
  ·exact absurd h (by simp)
  ·subst h;simp [Op.bytesLess]
theorem rless_any (a b:ByteArray) (w:World) (ha:a.size≤9223372036854775807) (hb:b.size≤9223372036854775807):Calls Tryz.prog 83 #[.string a,.string b] w fun e w'=>e=.returned (.bool (lessB a b))∧Below w.heap.size w w':=by
 have HB:∀r,Op.bytesLess a.data.toList b.data.toList=r→Hid (lessB a b=r):=fun r h=>Qa (by rw [←h];simp [lessB,Lib.toList_data])
 go_enter Tryz.func83,Tryz.ntmps83
 go_wp2_with fail
 go_loopg [5] a.size (fun g i wr=>∃j:Nat,j≤a.size∧j≤b.size∧g+j=a.size∧i=.int .i64 j∧Hid (a.data.toList.take j=b.data.toList.take j)∧Below w.heap.size w wr)
 case atStart=>exact ⟨0,by omega,by omega,by omega,rfl,Qa (by simp),Below.refl _ _⟩
 case round =>
  obtain ⟨j,hja,hjb,hg,rfl,HT,hbr⟩:=hrel
  by_cases h1:j<a.size
  ·by_cases h2:j<b.size
   ·have hA:j<a.data.toList.length:=by rw [←Lib.size_eq];exact h1
    have hB:j<b.data.toList.length:=by rw [←Lib.size_eq];exact h2
    have dA:a.data.toList.drop j=a[j]::a.data.toList.drop (j+1):=by rw [List.drop_eq_getElem_cons hA,getD_data a j h1]
    have dB:b.data.toList.drop j=b[j]::b.data.toList.drop (j+1):=by rw [List.drop_eq_getElem_cons hB,getD_data b j h2]
    by_cases h:a[j]=b[j]
    ·have hT:(((a[j]).toNat:Int) != ((b[j]).toNat:Int))=false:=by rw [h];simp
     have Qb:=Qa (show a.data.toList.take (j+1)=b.data.toList.take (j+1) by
      rw [List.take_succ_eq_append_getElem hA,List.take_succ_eq_append_getElem hB,HT.out,←getD_data a j h1,←getD_data b j h2,h])
     clear h dA dB HB
     go_wp2_with fail
     go_region
     all_goals
      go_wp2_with fail
      go_roundg (gk - 1)
      case measure=>omega
      case rel=>exact ⟨j+1,by omega,by omega,by omega,by go_num,Qb,hbr.drew⟩
    ·have hT:(((a[j]).toNat:Int) != ((b[j]).toNat:Int))=true:=by
      rw [bne_iff_ne];intro e;exact h (UInt8.toNat_inj.1 (by omega))
     have HR:=HB (decide ((a[j]).toNat<(b[j]).toNat)) (by rw [bl_at _ _ j HT.out,dA,dB,bl_head _ _ _ _ h])
     clear h dA dB HB
     go_wp2_with fail
     go_region
     all_goals
      go_wp2_with fail
      go_region
      all_goals
       go_wp2_with fail
       try rw [Exit.noGoto_ret]
       go_ret
       exact ⟨by rw [HR.out];rfl,hbr.drew.drew⟩
   ·have HR:=HB (decide (a.size<b.size)) (by
     rw [bl_at _ _ j HT.out,bl_nil _ _ (.inr (List.drop_eq_nil_of_le (by rw [←Lib.size_eq];omega))),List.length_drop,List.length_drop,←Lib.size_eq,←Lib.size_eq]
     rw [Bool.eq_iff_iff];simp;omega)
    have ma:¬((j:Int)<(b.size:Int)):=by omega
    clear HB h2
    go_wp2_with fail
    go_ret
    exact ⟨by rw [HR.out];rfl,hbr⟩
  ·have HR:=HB (decide (a.size<b.size)) (by
    rw [bl_at _ _ j HT.out,bl_nil _ _ (.inl (List.drop_eq_nil_of_le (by rw [←Lib.size_eq];omega))),List.length_drop,List.length_drop,←Lib.size_eq,←Lib.size_eq]
    rw [Bool.eq_iff_iff];simp;omega)
   have ma:¬((j:Int)<(a.size:Int)):=by omega
   clear HB h1
   go_wp2_with fail
   go_ret
   exact ⟨by rw [HR.out];rfl,hbr⟩
theorem find_at {L:List En} {p:En→Bool} {k:Nat} {x:En} (hx:L[k]?=some x) (hp:p x=true) (hb:∀e∈L.take k,p e=false):L.find? p=some x:=by
 have hk:=(List.getElem?_eq_some_iff.1 hx).1
 have ma:L[k]=x:=(List.getElem?_eq_some_iff.1 hx).2
 have e:L=L.take k++x::L.drop (k+1):=by rw [←ma,List.getElem_cons_drop,List.take_append_drop]
 have h1:(L.take k).find? p=none:=List.find?_eq_none.2 fun y hy=>by rw [hb y hy];decide
 rw [e,List.find?_append,h1,List.find?_cons,hp]
 rfl
theorem before_next {L:List En} {p:En→Bool} {k:Nat} {x:En} (hx:L[k]?=some x) (hp:p x=false) (hb:∀e∈L.take k,p e=false):∀e∈L.take (k+1),p e=false:=by
 rw [List.take_add_one,hx]
 intro e he
 rcases List.mem_append.1 he with he|he
 ·exact hb e he
 ·simp at he;rw [he];exact hp
theorem below_grown_far {w w1 w2:World} {B:Nat} (h:Below w.heap.size w w1) (hg:w1.grownBy w2 (some B)) (hB:w.heap.size≤B):Below w.heap.size w w2 :=
 h.trans ⟨hg.os,hg.tape,hg.output,hg.size,fun k hk=>hg.block k (by have:=h.size;omega) (fun e=>by injection e with e;omega)⟩
theorem lo_next {lo gg g2 k cap M:Nat} (hlo:lo≤gg) (hM:lo≤M) (hat:(Value.slice (some ⟨gg,0,none⟩) k cap).ownBlock=some g2∨g2=M):lo≤g2:=by
 rcases hat with e|e
 ·have h:gg=g2:=by simpa [Value.ownBlock] using e
  rw [←h];exact hlo
 ·rw [e];exact hM
theorem app_owns {w w':World} {gg cap k:Nat} {K:List En} (h:ERow w gg cap K) (hk:k=K.length) (hb:Below w.heap.size w w'):w'.ownsRow 0 125 2 (.slice (some ⟨gg,0,none⟩) k cap) k (encL K):=by
 subst hk
 exact (h.of_block (hb.block gg h.lt)).owns (Nat.zero_le _)
theorem app_row {w:World} {gg cap k:Nat} {K:List En} {x:En} (h:w.ownsRow 0 125 2 (.slice (some ⟨gg,0,none⟩) (k+1) cap) (k+1) (encL K++encL [x])) (hk:k=K.length):ERow w gg cap (K++[x]):=by
 rw [←encL_append] at h
 exact (ERow.of_owns h (by simp [hk])).1
theorem row_new (w:World):ERow (w.alloc (.cells #[] 125)) w.heap.size 0 []:=⟨Nat.le_refl _,by unfold maxLen;omega,[],heap_alloc_new w _,rfl,rfl⟩
def rstep (s:ByteArray) (v:Int) (st:List En×Bool) (x:En):List En×Bool :=
 let st1:=if !st.2 && !lessB x.1 s then (st.1++[(s,v)],true) else st
 (if x.1=s then st1.1 else st1.1++[x],st1.2)
def rfold (s:ByteArray) (v:Int) (l:List En):List En×Bool:=l.foldl (rstep s v) ([],false)
theorem rfold_next {s:ByteArray} {v:Int} {L:List En} {k:Nat} {x:En} (hx:L[k]?=some x):rfold s v (L.take (k+1))=rstep s v (rfold s v (L.take k)) x:=by
 unfold rfold
 rw [List.take_add_one,hx,List.foldl_append]
 rfl
theorem rfold_done (s:ByteArray) (v:Int) (l:List En) (out:List En) (h:∀x∈l,x.1≠s):l.foldl (rstep s v) (out,true)=(out++l,true):=by
 induction l generalizing out with
 | nil=>simp
 | cons x l ih =>
  rw [List.foldl_cons]
  have:rstep s v (out,true) x=(out++[x],true):=by simp [rstep,h x (by simp)]
  rw [this,ih _ (fun y hy=>h y (by simp [hy]))]
  simp
theorem rfold_lset (s:ByteArray) (v:Int) (l out:List En) (h:Sorted l):(let st:=l.foldl (rstep s v) (out,false);if st.2 then st.1 else st.1++[(s,v)])=out++lset s v l:=by
 induction l generalizing out with
 | nil=>simp [lset]
 | cons x l ih =>
  obtain ⟨h1,h2⟩:=h.cons
  rw [List.foldl_cons]
  unfold lset
  by_cases hx:lessB x.1 s=true
  ·rw [Jb hx]
   have:rstep s v (out,false) x=(out++[x],false):=by simp [rstep,hx,less_ne hx]
   rw [this,ih _ h1]
   simp
  ·rw [Ja hx]
   have ma:lessB x.1 s=false:=by simpa using hx
   by_cases hs:x.1=s
   ·rw [Jb hs]
    have:rstep s v (out,false) x=(out++[(s,v)],true):=by simp [rstep,hs,less_irrefl]
    rw [this,rfold_done s v l _ (fun y hy e=>less_ne (h2 y hy) (hs.trans e.symm))]
    simp
   ·rw [Ja hs]
    have:rstep s v (out,false) x=(out++[(s,v)]++[x],true):=by simp [rstep,ma,hs]
    rw [this,rfold_done s v l _ (fun y hy e=>less_ne (less_trans (less_of hs ma) (h2 y hy)) e.symm)]
    simp
theorem rfold_all {s:ByteArray} {v:Int} {L K:List En} {d:Bool} (h:Sorted L) (hf:rfold s v L=(K,d)):lset s v L=if d then K else K++[(s,v)]:=by
 have:=rfold_lset s v L [] h
 unfold rfold at hf
 rw [hf] at this
 simpa using this.symm
end dn
end Go.Proofs.YtgoddboicjfkcaaGreat
