/- Contracts and mathematics, part 1. -/
import Derived.Test.YtgoddboicjfkcaaGreatZ00
import Derived.Shelf.Small.Utf8
import Derived.Shelf.GgSortFunc.Tiny
import Derived.Shelf.GgSortFunc.Whole
import Derived.Shelf.Strings.Prefix
import Derived.Shelf.Strings.IndexAnyAll
import Derived.Shelf.Strings.BuilderCap
import Derived.Deep.RegionHeld3
set_option linter.unusedVariables false
set_option linter.unusedSimpArgs false
set_option maxRecDepth 100000
set_option maxHeartbeats 8000000
namespace Go.Proofs
open Go.Shelf
def Tryz.lays119_ren:Go.Shelf.Ren:=⟨fun|119=>245|n=>n,fun|21=>21|4=>4|n=>n,fun|n=>n⟩
theorem Tryz.lays119:Go.Proofs.Lays.n119 Tryz.prog Tryz.lays119_ren:={
 mixed:=by kernel_rfl
 f119:=Tryz.func245.trans (congrArg some (by kernel_rfl))
 t4:=Tryz.underlying4
 a4:=Tryz.isAgg4
 z4:=Tryz.sizeOf4
 v4:=Tryz.zeroValue4
 t21:=Tryz.underlying21
 a21:=Tryz.isAgg21
 z21:=Tryz.sizeOf21
 v21:=Tryz.zeroValue21 }
theorem Tryz.utf8_ValidRune (r:Int) (w:World) :
 Calls Tryz.prog 245 #[.int .i32 r] w fun e w'=>e=.returned (.bool (Lib.validRune r))∧w'=w:=Any.utf8_ValidRune Tryz.lays119 r w
def Tryz.lays137_ren:Go.Shelf.Ren:=⟨fun|137=>244|217=>253|266=>255|n=>n,fun|9=>9|5=>5|3=>3|n=>n,fun|n=>n⟩
theorem Tryz.lays137:Go.Proofs.Lays.n137 Tryz.prog Tryz.lays137_ren:={
 mixed:=by kernel_rfl
 f137:=Tryz.func244.trans (congrArg some (by kernel_rfl))
 f217:=Tryz.func253.trans (congrArg some (by kernel_rfl))
 f266:=Tryz.func255.trans (congrArg some (by kernel_rfl))
 t3:=Tryz.underlying3
 a3:=Tryz.isAgg3
 z3:=Tryz.sizeOf3
 v3:=Tryz.zeroValue3
 t5:=Tryz.underlying5
 a5:=Tryz.isAgg5
 z5:=Tryz.sizeOf5
 v5:=Tryz.zeroValue5
 t9:=Tryz.underlying9
 a9:=Tryz.isAgg9
 z9:=Tryz.sizeOf9
 v9:=Tryz.zeroValue9 }
open Go.RowKit in
theorem Tryz.strings_IndexByte (s:ByteArray) (c:Int) (w:World) :
 Calls Tryz.prog 244 #[.string s,.int .u8 c] w fun e w'=>e=.returned (.int .i64 (Lib.indexByte s.data.toList c.toNat.toUInt8))∧w'=w:=Any.strings_IndexByte Tryz.lays137 s c w
def Tryz.lays206_ren:Go.Shelf.Ren:=⟨fun|206=>250|n=>n,fun|9=>9|4=>4|3=>3|n=>n,fun|n=>n⟩
def Tryz.lays99_ren:Go.Shelf.Ren:=⟨fun|99=>237|206=>250|n=>n,fun|9=>9|4=>4|3=>3|n=>n,fun|n=>n⟩
theorem Tryz.lays99:Go.Proofs.Lays.n99 Tryz.prog Tryz.lays99_ren:={
 mixed:=by kernel_rfl
 f99:=Tryz.func237.trans (congrArg some (by kernel_rfl))
 f206:=Tryz.func250.trans (congrArg some (by kernel_rfl))
 t3:=Tryz.underlying3
 a3:=Tryz.isAgg3
 z3:=Tryz.sizeOf3
 v3:=Tryz.zeroValue3
 t4:=Tryz.underlying4
 a4:=Tryz.isAgg4
 z4:=Tryz.sizeOf4
 v4:=Tryz.zeroValue4
 t9:=Tryz.underlying9
 a9:=Tryz.isAgg9
 z9:=Tryz.sizeOf9
 v9:=Tryz.zeroValue9 }
open Go.RowKit Go.Lib in
theorem Tryz.strings_HasPrefix (s p:ByteArray) (w:World) :
 Calls Tryz.prog 237 #[.string s,.string p] w fun e w'=>e=.returned (.bool (Lib.hasPrefix s.data.toList p.data.toList))∧w'=w:=Any.strings_HasPrefix Tryz.lays99 s p w
def Tryz.lays100_ren:Go.Shelf.Ren:=⟨fun|100=>254|207=>256|n=>n,fun|9=>9|4=>4|3=>3|n=>n,fun|n=>n⟩
theorem Tryz.lays100:Go.Proofs.Lays.n100 Tryz.prog Tryz.lays100_ren:={
 mixed:=by kernel_rfl
 f100:=Tryz.func254.trans (congrArg some (by kernel_rfl))
 f207:=Tryz.func256.trans (congrArg some (by kernel_rfl))
 t3:=Tryz.underlying3
 a3:=Tryz.isAgg3
 z3:=Tryz.sizeOf3
 v3:=Tryz.zeroValue3
 t4:=Tryz.underlying4
 a4:=Tryz.isAgg4
 z4:=Tryz.sizeOf4
 v4:=Tryz.zeroValue4
 t9:=Tryz.underlying9
 a9:=Tryz.isAgg9
 z9:=Tryz.sizeOf9
 v9:=Tryz.zeroValue9 }
open Go.RowKit Go.Lib in
theorem Tryz.strings_HasSuffix (s p:ByteArray) (w:World) (hs:s.size≤9223372036854775807) :
 Calls Tryz.prog 254 #[.string s,.string p] w fun e w'=>e=.returned (.bool (Lib.hasSuffix s.data.toList p.data.toList))∧w'=w:=Any.strings_HasSuffix Tryz.lays100 s p w hs
def Tryz.lays152_ren:Go.Shelf.Ren:=⟨fun|152=>231|137=>244|119=>245|224=>246|225=>247|217=>253|266=>255|n=>n,fun|9=>9|21=>21|3=>3|4=>4|5=>5|0=>0|46=>213|n=>n,fun|n=>n⟩
theorem Tryz.lays152:Go.Proofs.Lays.n152 Tryz.prog Tryz.lays152_ren:={
 mixed:=by kernel_rfl
 f119:=Tryz.func245.trans (congrArg some (by kernel_rfl))
 f137:=Tryz.func244.trans (congrArg some (by kernel_rfl))
 f152:=Tryz.func231.trans (congrArg some (by kernel_rfl))
 f217:=Tryz.func253.trans (congrArg some (by kernel_rfl))
 f224:=Tryz.func246.trans (congrArg some (by kernel_rfl))
 f225:=Tryz.func247.trans (congrArg some (by kernel_rfl))
 f266:=Tryz.func255.trans (congrArg some (by kernel_rfl))
 t0:=Tryz.underlying0
 a0:=Tryz.isAgg0
 z0:=Tryz.sizeOf0
 v0:=Tryz.zeroValue0
 t3:=Tryz.underlying3
 a3:=Tryz.isAgg3
 z3:=Tryz.sizeOf3
 v3:=Tryz.zeroValue3
 t4:=Tryz.underlying4
 a4:=Tryz.isAgg4
 z4:=Tryz.sizeOf4
 v4:=Tryz.zeroValue4
 t5:=Tryz.underlying5
 a5:=Tryz.isAgg5
 z5:=Tryz.sizeOf5
 v5:=Tryz.zeroValue5
 t9:=Tryz.underlying9
 a9:=Tryz.isAgg9
 z9:=Tryz.sizeOf9
 v9:=Tryz.zeroValue9
 t21:=Tryz.underlying21
 a21:=Tryz.isAgg21
 z21:=Tryz.sizeOf21
 v21:=Tryz.zeroValue21
 t46:=Tryz.underlying213
 a46:=Tryz.isAgg213
 z46:=Tryz.sizeOf213
 v46:=Tryz.zeroValue213 }
open Go.RowKit Go.Lib in
theorem Tryz.strings_IndexRune_ascii (s:ByteArray) (r:Int) (w:World) (h0:0≤r) (h1:r<128) :
 Calls Tryz.prog 231 #[.string s,.int .i32 r] w fun e w'=>e=.returned (.int .i64 (Lib.indexByte s.data.toList r.toNat.toUInt8))∧w'=w:=Any.strings_IndexRune_ascii Tryz.lays152 s r w h0 h1
def Tryz.lays226_ren:Go.Shelf.Ren:=⟨fun|226=>232|n=>n,fun|3=>3|4=>4|n=>n,fun|n=>n⟩
theorem Tryz.lays226:Go.Proofs.Lays.n226 Tryz.prog Tryz.lays226_ren:={
 mixed:=by kernel_rfl
 f226:=Tryz.func232.trans (congrArg some (by kernel_rfl))
 t3:=Tryz.underlying3
 a3:=Tryz.isAgg3
 z3:=Tryz.sizeOf3
 v3:=Tryz.zeroValue3
 t4:=Tryz.underlying4
 a4:=Tryz.isAgg4
 z4:=Tryz.sizeOf4
 v4:=Tryz.zeroValue4 }
open Go.RowKit Go.Lib in
theorem Tryz.strings_shouldUseASCIISet (n:Int) (w:World) :
 Calls Tryz.prog 232 #[.int .i64 n] w fun e w'=>e=.returned (.bool (decide (8<n)))∧w'=w:=Any.strings_shouldUseASCIISet Tryz.lays226 n w
def Tryz.lays153_ren:Go.Shelf.Ren:=⟨fun|153=>220|152=>231|226=>232|227=>233|228=>234|137=>244|119=>245|224=>246|225=>247|217=>253|266=>255|n=>n,fun|9=>9|3=>3|4=>4|5=>5|21=>21|117=>315|116=>314|0=>0|46=>213|124=>325|n=>n,fun|n=>n⟩
theorem Tryz.lays153:Go.Proofs.Lays.n153 Tryz.prog Tryz.lays153_ren:={
 mixed:=by kernel_rfl
 f119:=Tryz.func245.trans (congrArg some (by kernel_rfl))
 f137:=Tryz.func244.trans (congrArg some (by kernel_rfl))
 f152:=Tryz.func231.trans (congrArg some (by kernel_rfl))
 f153:=Tryz.func220.trans (congrArg some (by kernel_rfl))
 f217:=Tryz.func253.trans (congrArg some (by kernel_rfl))
 f224:=Tryz.func246.trans (congrArg some (by kernel_rfl))
 f225:=Tryz.func247.trans (congrArg some (by kernel_rfl))
 f226:=Tryz.func232.trans (congrArg some (by kernel_rfl))
 f227:=Tryz.func233.trans (congrArg some (by kernel_rfl))
 f228:=Tryz.func234.trans (congrArg some (by kernel_rfl))
 f266:=Tryz.func255.trans (congrArg some (by kernel_rfl))
 t0:=Tryz.underlying0
 a0:=Tryz.isAgg0
 z0:=Tryz.sizeOf0
 v0:=Tryz.zeroValue0
 t3:=Tryz.underlying3
 a3:=Tryz.isAgg3
 z3:=Tryz.sizeOf3
 v3:=Tryz.zeroValue3
 t4:=Tryz.underlying4
 a4:=Tryz.isAgg4
 z4:=Tryz.sizeOf4
 v4:=Tryz.zeroValue4
 t5:=Tryz.underlying5
 a5:=Tryz.isAgg5
 z5:=Tryz.sizeOf5
 v5:=Tryz.zeroValue5
 t9:=Tryz.underlying9
 a9:=Tryz.isAgg9
 z9:=Tryz.sizeOf9
 v9:=Tryz.zeroValue9
 t21:=Tryz.underlying21
 a21:=Tryz.isAgg21
 z21:=Tryz.sizeOf21
 v21:=Tryz.zeroValue21
 t46:=Tryz.underlying213
 a46:=Tryz.isAgg213
 z46:=Tryz.sizeOf213
 v46:=Tryz.zeroValue213
 t116:=Tryz.underlying314
 a116:=Tryz.isAgg314
 z116:=Tryz.sizeOf314
 t117:=Tryz.underlying315
 a117:=Tryz.isAgg315
 z117:=Tryz.sizeOf315
 v117:=Tryz.zeroValue315
 t124:=Tryz.underlying325
 a124:=Tryz.isAgg325
 z124:=Tryz.sizeOf325
 v124:=Tryz.zeroValue325 }
open Go.RowKit Go.Lib in
theorem Tryz.strings_IndexAny_long (hv116:∀w,(zeroValue 314).run Tryz.prog w=.ok (.agg (Array.replicate 256 (.bool false))) w) (s chars:ByteArray) (w:World) (h2:2≤chars.size) (h8:8<s.size) (hs:s.size<4294967281) (hcs:chars.size<4294967281) (hascii:∀(j:Nat) b,chars.data.toList[j]?=some b→b.toNat<128) :
 Calls Tryz.prog 220 #[.string s,.string chars] w fun e w'=>e=.returned (.int .i64 (Lib.indexAny s.data.toList chars.data.toList))∧w'=((w.alloc (.cells (Lib.setCells chars.data.toList) 314)).alloc (.cells (Lib.setCells chars.data.toList) 314)):=Any.strings_IndexAny_long Tryz.lays153 hv116 (by kernel_rfl) s chars w h2 h8 hs hcs hascii
end Go.Proofs
namespace Go.Proofs.YtgoddboicjfkcaaGreat
namespace rj
open Go
section
variable {P:Program} {ops:Array Oper} {Q:Exit→Act→World→Prop} {md:Region.Mode} {S:World→Prop} {ex:List Nat}
def anyE (P:Program) (md:Region.Mode) (ops:Array Oper) (Q:Exit→Act→World→Prop) (S:World→Prop) (ex:List Nat) (n:Nat) (done:Array Bool) (a:Act) (w:World):Prop :=
 match n with
 | 0=>Region.ready md ops done=[]∧Q .normal a w
 | n+1=>(Region.ready md ops done=[]→Q .normal a w)∧∀i∈Region.ready md ops done,wpOp P ops Q i (fun b v=>(ex.contains i=true∨S v)∧anyE P md ops Q S ex n (done.setIfInBounds i true) b v) a w
theorem any_of_E:∀(n:Nat) (done:Array Bool) (a:Act) (w:World),anyE P md ops Q S ex n done a w→wpAny P md ops Q n done a w
 | 0,_,_,_,h=>h
 | n+1,_,_,_,h=>⟨h.1,fun i hi=>wpOp_mono (fun b v k=>any_of_E n _ b v k.2) (h.2 i hi)⟩
def depsB (md:Region.Mode) (ops:Array Oper) (done:Array Bool) (j:Nat):Bool:=match ops[j]? with|some o=>o.after.all fun e=>!Region.binds md e || done.getD e.on false|none=>true
def downB (md:Region.Mode) (ops:Array Oper) (done:Array Bool):Bool:=(List.range ops.size).all fun j=>!done.getD j false || depsB md ops done j
def reach (md:Region.Mode) (ops:Array Oper):Nat→Nat→Nat→Bool
 | 0,_,_=>false
 | f+1,z,i=>match ops[z]? with|some o=>o.after.any fun e=>Region.binds md e && (e.on == i || reach md ops f e.on i)|none=>false
def behind (md:Region.Mode) (ops:Array Oper) (ex:List Nat) (i:Nat):Bool:=ex.all fun z=>decide (ops.size≤z) || reach md ops ops.size z i
theorem deps_iff {done:Array Bool} {j:Nat}:depsB md ops done j=true↔∀o,ops[j]?=some o→∀e∈o.after,Region.binds md e=true→done.getD e.on false=true:=by
 unfold depsB
 cases ho:ops[j]? with
 | none=>simp
 | some o =>
  simp only [Array.all_eq_true_iff_forall_mem,Bool.or_eq_true,Bool.not_eq_true',Option.some.injEq,forall_eq']
  constructor
  ·intro h e he hb
   rcases h e he with h|h
   ·rw [hb] at h;cases h
   ·exact h
  ·intro h e he
   cases hb:Region.binds md e with
   | false=>exact .inl rfl
   | true=>exact .inr (h e he hb)
theorem down_iff {done:Array Bool}:downB md ops done=true↔∀j,j<ops.size→done.getD j false=true→depsB md ops done j=true:=by
 unfold downB
 rw [List.all_eq_true]
 constructor
 ·intro h j hj hd
  have:=h j (List.mem_range.2 hj)
  rw [hd] at this
  simpa using this
 ·intro h j hj
  cases hd:done.getD j false with
  | false=>rfl
  | true=>rw [h j (List.mem_range.1 hj) hd];rfl
theorem getD_set {done:Array Bool} {i x:Nat} (h:done.getD x false=true):(done.setIfInBounds i true).getD x false=true:=by
 by_cases e:i=x
 ·subst e
  rcases Nat.lt_or_ge i done.size with k|k
  ·simp [k]
  ·simp [Array.getElem?_eq_none k] at h
 ·rw [getD_set_ne false e];exact h
theorem deps_set {done:Array Bool} {i j:Nat} (h:depsB md ops done j=true):depsB md ops (done.setIfInBounds i true) j=true :=
 deps_iff.2 fun o ho e he hb=>getD_set (deps_iff.1 h o ho e he hb)
theorem down_set {done:Array Bool} {i:Nat} (h:downB md ops done=true) (hi:depsB md ops done i=true):downB md ops (done.setIfInBounds i true)=true :=
 down_iff.2 fun j hj hd=>by
  by_cases e:i=j
  ·subst e;exact deps_set hi
  ·rw [getD_set_ne false e] at hd
   exact deps_set (down_iff.1 h j hj hd)
theorem reach_done {done:Array Bool} (hD:downB md ops done=true) {i:Nat}:∀(f z:Nat),depsB md ops done z=true→reach md ops f z i=true→done.getD i false=true
 | 0,z,_,h=>by cases h
 | f+1,z,hz,h=>by
  unfold reach at h
  cases ho:ops[z]? with
  | none=>rw [ho] at h;cases h
  | some o =>
   rw [ho] at h
   obtain ⟨e,he,hb⟩:=Array.any_eq_true'.1 h
   simp only [Bool.and_eq_true,Bool.or_eq_true,beq_iff_eq] at hb
   have hd:=deps_iff.1 hz o ho e he hb.1
   rcases hb.2 with h2|h2
   ·rw [←h2];exact hd
   ·refine reach_done hD f e.on ?_ h2
    rcases Nat.lt_or_ge e.on ops.size with k|k
    ·exact down_iff.1 hD e.on k hd
    ·unfold depsB;rw [Array.getElem?_eq_none k]
theorem ready_deps {done:Array Bool} {j:Nat} (h:j∈Region.ready md ops done):depsB md ops done j=true:=by
 obtain ⟨_,o,ho,hall⟩:=mem_ready.1 h
 refine deps_iff.2 fun o' ho' e he hb=>?_
 rw [ho] at ho'
 cases ho'
 exact hall e he hb
theorem ex_not {done:Array Bool} {i j:Nat} (hD:downB md ops done=true) (hb:behind md ops ex i=true) (hd:done.getD i true=false) (hj:j∈Region.ready md ops done):ex.contains j≠true:=by
 intro hx
 have hm:j∈ex:=by simpa using hx
 have h1:=List.all_eq_true.1 hb j hm
 obtain ⟨_,o,ho,_⟩:=mem_ready.1 hj
 have hlt:j<ops.size:=(Array.getElem?_eq_some_iff.1 ho).1
 rw [decide_eq_false (by omega)] at h1
 have h2:=reach_done hD _ j (ready_deps hj) (by simpa using h1)
 rcases Nat.lt_or_ge i done.size with k|k
 ·simp [k] at hd h2;rw [hd] at h2;cases h2
 ·simp [Array.getElem?_eq_none k] at hd
theorem first_E {i:Nat} {o:Oper} {u:Value} (hi:ops[i]?=some o) (hsel:∀(j:Nat) (x:Oper) cs b,ops[j]?=some x→x.op≠.select cs b)
  (hQ:∀c a w,Q (.panic c) (a.put o.dst u) w→Q (.panic c) a w) (hz:behind md ops ex i=true) :
  ∀(n:Nat) (done:Array Bool) (a:Act) (w:World),downB md ops done=true→(∀j x,ops[j]?=some x→j≠i→done.getD j true=false→(∀e∈x.after,Region.binds md e=true→e.on≠i)→o.apart ops x=true) →
   i∈Region.ready md ops done→YieldsIf P ops S o u a→S w→anyE P md ops Q S ex n (done.setIfInBounds i true) (a.put o.dst u) w→anyE P md ops Q S ex (n+1) done a w
 | 0,done,a,w,_,_,hr,hy,hS,H=>by
  refine ⟨fun h=>(by rw [h] at hr;cases hr),fun j hj=>?_⟩
  by_cases e:j=i
  ·subst e;exact hy.wpOp hi hS ⟨.inr hS,H⟩
  ·have:=ready_mono hj e
   rw [H.1] at this
   cases this
 | n+1,done,a,w,hD,hf,hr,hy,hS,H=>by
  refine ⟨fun h=>(by rw [h] at hr;cases hr),fun j hj=>?_⟩
  by_cases e:j=i
  ·subst e;exact hy.wpOp hi hS ⟨.inr hS,H⟩
  ·have hu:=(mem_ready.1 hr).1
   have qa:ex.contains j≠true:=ex_not hD hz hu hj
   have k1:=H.2 j (ready_mono hj e)
   obtain ⟨ma,x,hx,hall⟩:=mem_ready.1 hj
   have ja:∀y∈x.after,Region.binds md y=true→y.on≠i:=fun y hy2 hb e2=>by
    have k2:=hall y hy2 hb
    rw [e2] at k2
    rcases Nat.lt_or_ge i done.size with k|k
    ·simp [k] at hu k2;rw [hu] at k2;cases k2
    ·simp [Array.getElem?_eq_none k] at hu
   have k3:=wpOp_putIf hx (hf j x hx e ma ja) (fun cs b=>hsel i o cs b hi) (fun cs b=>hsel j x cs b hx) hQ hy k1
   refine wpOp_mono (fun b v k4=>⟨k4.2.1,first_E hi hsel hQ hz n (done.setIfInBounds j true) b v (down_set hD (ready_deps hj)) (fun m y hm hmi hun hn=>?_) (ready_mono hr (Ne.symm e)) k4.1 (k4.2.1.resolve_left qa) ?_⟩) k3
   ·refine hf m y hm hmi ?_ hn
    by_cases hjm:j=m
    ·subst hjm;exact ma
    ·rw [getD_set_ne true hjm] at hun;exact hun
   ·rw [Array.setIfInBounds_comm _ _ e]
    exact k4.2.2
theorem take_E {i:Nat} {o:Oper} (u:Value) {n:Nat} {done:Array Bool} {a:Act} {w:World} (hi:ops[i]?=some o) (hs:Region.noSelect ops=true) (hf:Region.free md ops done i=true)
  (hr:(Region.ready md ops done).contains i=true) (hz:behind md ops ex i=true) (hD:downB md ops done=true) (hQ:∀c a w,Q (.panic c) (a.put o.dst u) w→Q (.panic c) a w) (hy:YieldsIf P ops S o u a) (hS:S w)
  (h:anyE P md ops Q S ex n (done.setIfInBounds i true) (a.put o.dst u) w):anyE P md ops Q S ex (n+1) done a w :=
 first_E hi (Region.noSelect_spec hs) hQ hz n done a w hD (Region.free_spec hi hf) (by simpa using hr) hy hS h
theorem step_E {i:Nat} {o:Oper} {n:Nat} {done:Array Bool} {a:Act} {w:World} (hr:Region.ready md ops done=[i]) (ho:ops[i]?=some o)
  (h:∀K:Act→World→Prop,Shut (∀b v,(ex.contains i=true∨S v)→anyE P md ops Q S ex n (done.setIfInBounds i true) b v→K b v)→if Region.wanted o (yielded ops a.tmps)=true then Oper.wp P o a w K Q else K (a.put o.dst undef) w) :
  anyE P md ops Q S ex (n+1) done a w :=
 ⟨fun e=>(by rw [hr] at e;cases e),fun j hj=>by
  rw [hr] at hj
  obtain rfl:j=i:=by simpa using hj
  exact wpOp_step ho fun K hK=>h K fun b v h1 h2=>hK b v ⟨h1,h2⟩⟩
theorem two_E {i j:Nat} {oi oj:Oper} {n:Nat} {done:Array Bool} {a:Act} {w:World} (hr:Region.ready md ops done=[i,j]) (hi:ops[i]?=some oi) (hj:ops[j]?=some oj)
  (h1:∀K:Act→World→Prop,Shut (∀b v,(ex.contains i=true∨S v)→anyE P md ops Q S ex n (done.setIfInBounds i true) b v→K b v)→if Region.wanted oi (yielded ops a.tmps)=true then Oper.wp P oi a w K Q else K (a.put oi.dst undef) w)
  (h2:∀K:Act→World→Prop,Shut (∀b v,(ex.contains j=true∨S v)→anyE P md ops Q S ex n (done.setIfInBounds j true) b v→K b v)→if Region.wanted oj (yielded ops a.tmps)=true then Oper.wp P oj a w K Q else K (a.put oj.dst undef) w) :
  anyE P md ops Q S ex (n+1) done a w :=
 ⟨fun e=>(by rw [hr] at e;cases e),fun k hk=>by
  rw [hr] at hk
  rcases List.mem_cons.1 hk with rfl|hk
  ·exact wpOp_step hi fun K hK=>h1 K fun b v e1 e2=>hK b v ⟨e1,e2⟩
  ·obtain rfl:k=j:=by simpa using hk
   exact wpOp_step hj fun K hK=>h2 K fun b v e1 e2=>hK b v ⟨e1,e2⟩⟩
theorem done_E {done:Array Bool} {a:Act} {w:World} (hr:Region.ready md ops done=[]) (h:Q .normal a w):anyE P md ops Q S ex 0 done a w:=⟨hr,h⟩
theorem region_E {id:Nat} {a:Act} {w:World} (hm:P.follows .mixedOrders=true) (h:anyE P .any ops Q S ex ops.size (Array.replicate ops.size false) a w.drew):(Code.region id ops true).wp P Q a w :=
 wp_region_any hm (any_of_E _ _ _ _ h)
end
end rj
namespace fl
structure Ln where
 path:ByteArray
 kind:Int
 data:ByteArray
end fl
namespace rh
open Go
section
variable {P:Program} {ops:Array Oper} {Q:Exit→Act→World→Prop} {md:Region.Mode} {S:World→Prop} {z:Nat}
def anyT (P:Program) (md:Region.Mode) (ops:Array Oper) (Q:Exit→Act→World→Prop) (S:World→Prop) (z:Nat) (n:Nat) (done:Array Bool) (a:Act) (w:World):Prop :=
 match n with
 | 0=>Region.ready md ops done=[]∧Q .normal a w
 | n+1=>(Region.ready md ops done=[]→Q .normal a w)∧∀i∈Region.ready md ops done,wpOp P ops Q i (fun b v=>(i=z∨S v)∧anyT P md ops Q S z n (done.setIfInBounds i true) b v) a w
theorem any_of_T:∀(n:Nat) (done:Array Bool) (a:Act) (w:World),anyT P md ops Q S z n done a w→wpAny P md ops Q n done a w
 | 0,_,_,_,h=>h
 | n+1,_,_,_,h=>⟨h.1,fun i hi=>wpOp_mono (fun b v k=>any_of_T n _ b v k.2) (h.2 i hi)⟩
def Waits (md:Region.Mode) (ops:Array Oper) (z i:Nat):Bool:=match ops[z]? with|some o=>o.after.any fun e=>Region.binds md e && e.on == i|none=>true
theorem waits_not {i:Nat} {done:Array Bool} (h:Waits md ops z i=true) (hd:done.getD i true=false):z∉Region.ready md ops done:=by
 intro hz
 obtain ⟨_,o,ho,hall⟩:=mem_ready.1 hz
 unfold Waits at h
 rw [ho] at h
 obtain ⟨e,he,hb⟩:=Array.any_eq_true'.1 h
 simp only [Bool.and_eq_true,beq_iff_eq] at hb
 have h1:=hall e he hb.1
 rw [hb.2] at h1
 rcases Nat.lt_or_ge i done.size with k|k
 ·simp [k] at hd h1;rw [hd] at h1;cases h1
 ·simp [Array.getElem?_eq_none k] at hd
theorem first_T {i:Nat} {o:Oper} {u:Value} (hi:ops[i]?=some o) (hsel:∀(j:Nat) (x:Oper) cs b,ops[j]?=some x→x.op≠.select cs b)
  (hQ:∀c a w,Q (.panic c) (a.put o.dst u) w→Q (.panic c) a w) (hz:Waits md ops z i=true) :
  ∀(n:Nat) (done:Array Bool) (a:Act) (w:World),(∀j x,ops[j]?=some x→j≠i→done.getD j true=false→(∀e∈x.after,Region.binds md e=true→e.on≠i)→o.apart ops x=true) →
   i∈Region.ready md ops done→YieldsIf P ops S o u a→S w→anyT P md ops Q S z n (done.setIfInBounds i true) (a.put o.dst u) w→anyT P md ops Q S z (n+1) done a w
 | 0,done,a,w,_,hr,hy,hS,H=>by
  refine ⟨fun h=>(by rw [h] at hr;cases hr),fun j hj=>?_⟩
  by_cases e:j=i
  ·subst e;exact hy.wpOp hi hS ⟨.inr hS,H⟩
  ·have:=ready_mono hj e
   rw [H.1] at this
   cases this
 | n+1,done,a,w,hf,hr,hy,hS,H=>by
  refine ⟨fun h=>(by rw [h] at hr;cases hr),fun j hj=>?_⟩
  by_cases e:j=i
  ·subst e;exact hy.wpOp hi hS ⟨.inr hS,H⟩
  ·have hu:=(mem_ready.1 hr).1
   have qa:j≠z:=fun e2=>waits_not hz hu (e2▸hj)
   have k1:=H.2 j (ready_mono hj e)
   obtain ⟨ma,x,hx,hall⟩:=mem_ready.1 hj
   have ja:∀y∈x.after,Region.binds md y=true→y.on≠i:=fun y hy2 hb e2=>by
    have k2:=hall y hy2 hb
    rw [e2] at k2
    rcases Nat.lt_or_ge i done.size with k|k
    ·simp [k] at hu k2;rw [hu] at k2;cases k2
    ·simp [Array.getElem?_eq_none k] at hu
   have k3:=wpOp_putIf hx (hf j x hx e ma ja) (fun cs b=>hsel i o cs b hi) (fun cs b=>hsel j x cs b hx) hQ hy k1
   refine wpOp_mono (fun b v k4=>⟨k4.2.1,first_T hi hsel hQ hz n (done.setIfInBounds j true) b v (fun m y hm hmi hun hn=>?_) (ready_mono hr (Ne.symm e)) k4.1 (k4.2.1.resolve_left qa) ?_⟩) k3
   ·refine hf m y hm hmi ?_ hn
    by_cases hjm:j=m
    ·subst hjm;exact ma
    ·rw [getD_set_ne true hjm] at hun;exact hun
   ·rw [Array.setIfInBounds_comm _ _ e]
    exact k4.2.2
theorem take_T {i:Nat} {o:Oper} (u:Value) {n:Nat} {done:Array Bool} {a:Act} {w:World} (hi:ops[i]?=some o) (hs:Region.noSelect ops=true) (hf:Region.free md ops done i=true)
  (hr:(Region.ready md ops done).contains i=true) (hz:Waits md ops z i=true) (hQ:∀c a w,Q (.panic c) (a.put o.dst u) w→Q (.panic c) a w) (hy:YieldsIf P ops S o u a) (hS:S w)
  (h:anyT P md ops Q S z n (done.setIfInBounds i true) (a.put o.dst u) w):anyT P md ops Q S z (n+1) done a w :=
 first_T hi (Region.noSelect_spec hs) hQ hz n done a w (Region.free_spec hi hf) (by simpa using hr) hy hS h
theorem step_T {i:Nat} {o:Oper} {n:Nat} {done:Array Bool} {a:Act} {w:World} (hr:Region.ready md ops done=[i]) (ho:ops[i]?=some o)
  (h:∀K:Act→World→Prop,Shut (∀b v,(i=z∨S v)→anyT P md ops Q S z n (done.setIfInBounds i true) b v→K b v)→if Region.wanted o (yielded ops a.tmps)=true then Oper.wp P o a w K Q else K (a.put o.dst undef) w) :
  anyT P md ops Q S z (n+1) done a w :=
 ⟨fun e=>(by rw [hr] at e;cases e),fun j hj=>by
  rw [hr] at hj
  obtain rfl:j=i:=by simpa using hj
  exact wpOp_step ho fun K hK=>h K fun b v h1 h2=>hK b v ⟨h1,h2⟩⟩
theorem done_T {done:Array Bool} {a:Act} {w:World} (hr:Region.ready md ops done=[]) (h:Q .normal a w):anyT P md ops Q S z 0 done a w:=⟨hr,h⟩
theorem region_T {id:Nat} {a:Act} {w:World} (hm:P.follows .mixedOrders=true) (h:anyT P .any ops Q S z ops.size (Array.replicate ops.size false) a w.drew):(Code.region id ops true).wp P Q a w :=
 wp_region_any hm (any_of_T _ _ _ _ h)
end
end rh
end Go.Proofs.YtgoddboicjfkcaaGreat
