/- Contracts and mathematics, part 5. -/
import Derived.Test.YtgoddboicjfkcaaGreatZ04
import Derived.Lib.BufferRead
set_option linter.unusedVariables false
set_option linter.unusedSimpArgs false
set_option maxRecDepth 100000
set_option maxHeartbeats 8000000
namespace Go.Proofs.YtgoddboicjfkcaaGreat
namespace bl
open Go.RowKit
def BytesIn (w:World) (F:Nat→Prop) (A:Option Addr) (n:Nat) (f:Nat→UInt8):Prop:=∀i,i<n→∃b off,A=some ⟨b,off,none⟩∧¬F b∧b<w.heap.size∧w.cell? ⟨b,off+i,none⟩=some (U8 (f i))
theorem BytesIn.only {w w':World} {F:Nat→Prop} {A:Option Addr} {n:Nat} {f:Nat→UInt8} (h:BytesIn w F A n f) (ho:Only F w w'):BytesIn w' F A n f:=fun i hi=>by
 obtain ⟨b,off,e,hF,hl,h0⟩:=h i hi
 exact ⟨b,off,e,hF,Nat.lt_of_lt_of_le hl ho.size,(World.cell?_of_block (a:=⟨b,off+i,none⟩) (ho.block b hl hF)).trans h0⟩
theorem BytesIn.part {w:World} {F:Nat→Prop} {b off n p T:Nat} {f:Nat→UInt8} (h:BytesIn w F (some ⟨b,off,none⟩) n f) (hT:T≤n):Bytes w w.heap.size (some ⟨b,off+p,none⟩) (T - p) (fun i=>f (p+i)):=fun i hi=>by
 obtain ⟨b',off',e,hF,hl,h0⟩:=h (p+i) (by omega)
 injection e with e
 injection e with e1 e2
 subst e1;subst e2
 exact ⟨b,off+p,rfl,hl,by rw [Nat.add_assoc];exact h0⟩
def thW (b:AB) (s a:Nat):Nat→Bool:=fun k=>b.th k || decide (s<a∧s<16*k+16∧16*k<a)
def usedW (b:AB) (used s a:Nat):Nat:=used+cnt 4096 (thW b s a) - b.n
def okW (b:AB) (used room s q:Nat):Prop:=thW b s (s+q) ((s+q) / 16)=true∨usedW b used s (s+q)<room
structure IsStop (b:AB) (used room s T p:Nat):Prop where
 le:p≤T
 ok:∀q,q<p→okW b used room s q
 stop:p=T∨¬okW b used room s p
def wrB (b:AB) (s p:Nat) (f:Nat→UInt8):AB:=⟨if p=0 then b.size else max b.size (s+p),thW b s (s+p),over b.dat s p f⟩
theorem thW_self (b:AB) (s:Nat) (k:Nat):thW b s (s+0) k=b.th k:=by
 unfold thW
 have:¬(s<s+0∧s<16*k+16∧16*k<s+0):=by omega
 simp only [decide_eq_false this,Bool.or_false]
theorem over_self (d f:Nat→UInt8) (s:Nat) (i:Nat):over d s 0 f i=d i:=by unfold over;rw [Ja (by omega)]
theorem wrB_zero (b:AB) (s:Nat) (f:Nat→UInt8):wrB b s 0 f=b:=by
 obtain ⟨n,th,dat⟩:=b
 unfold wrB
 congr 1
 ·funext k;exact thW_self _ s k
 ·funext i;exact over_self _ _ _ _
theorem thW_lt {b:AB} (ok:b.Ok) {s a k:Nat} (ha:a≤65536) (h:thW b s a k=true):k<4096:=by
 unfold thW at h
 simp only [Bool.or_eq_true,decide_eq_true_eq] at h
 rcases h with h|h
 ·have h1:=ok.th k h;have h2:=ok.size;omega
 ·omega
theorem wrB_ok {b:AB} (ok:b.Ok) {s p:Nat} (h:s+p≤65536) (f:Nat→UInt8):(wrB b s p f).Ok:=by
 have h1:=ok.size
 refine ⟨?_,fun k hk=>?_,fun i hi=>?_⟩
 ·unfold wrB;dsimp only;split <;> omega
 ·unfold wrB at hk ⊢
  dsimp only at hk ⊢
  unfold thW at hk
  simp only [Bool.or_eq_true,decide_eq_true_eq] at hk
  rcases hk with hk|hk
  ·have h2:=ok.th k hk;split <;> omega
  ·split <;> omega
 ·unfold wrB at hi ⊢
  dsimp only at hi ⊢
  unfold over
  split at hi
  ·rw [Ja (by omega)];exact ok.dat i hi
  ·rw [Ja (by omega)];exact ok.dat i (by omega)
theorem thW_step {b:AB} {s p m k:Nat} (hk:(s+p) / 16=k) (hm:0<m) (hm2:s+p+m≤16*k+16) (x:Nat):thW b s (s+(p+m)) x=updB (thW b s (s+p)) k true x:=by
 unfold updB
 by_cases e:x=k
 ·subst e
  rw [Jb rfl]
  unfold thW
  have:s<s+(p+m)∧s<16*x+16∧16*x<s+(p+m):=by omega
  simp only [decide_eq_true this,Bool.or_true]
 ·rw [Ja e]
  unfold thW
  congr 1
  apply decide_eq_decide.2
  constructor
  ·rintro ⟨h1,h2,h3⟩
   have:x<k:=by omega
   omega
  ·rintro ⟨h1,h2,h3⟩
   omega
theorem over_step {d f:Nat→UInt8} {s p m:Nat} (i:Nat):over d s (p+m) f i=over (over d s p f) (s+p) m (fun i=>f (p+i)) i:=by
 unfold over
 by_cases h1:s+p≤i∧i<s+p+m
 ·rw [Jb h1,Jb (by omega)];congr 1;omega
 ·rw [Ja h1]
  by_cases h2:s≤i∧i<s+p
  ·rw [Jb h2,Jb (by omega)]
  ·rw [Ja h2,Ja (by omega)]
def wr (b:AB) (off:Int) (p:Nat) (f:Nat→UInt8):AB:=wrB b off.toNat p f
def WR (b:AB) (used room:Nat) (off:Int) (len p:Nat) (err:Int):Prop :=
 (off<0∧p=0∧err=22)∨(0≤off∧len=0∧p=0∧err=0)∨(65536≤off∧0<len∧p=0∧err=27) ∨
 (0≤off∧off<65536∧0<len∧IsStop b used room off.toNat (min len (65536 - off.toNat)) p∧err=if p=0 then 28 else 0)
def WriteE (w:World) (S B M room used:Nat) (b:AB) (off:Int) (len:Nat) (f:Nat→UInt8) (e:Ending) (w':World):Prop :=
 ∃(p:Nat) (err:Int),e=.returned (.tuple #[.int .i64 (p:Int),.int .i64 err])∧WR b used room off len p err∧used+(wr b off p f).n - b.n≤room∧BodE w S B M room used b (wr b off p f) w'
theorem put_at (S B M n N k T s p sb so dc len:Nat) (F:Nat→Prop) (th:Nat→Bool) (dat f:Nat→UInt8) (w:World) (hb:BodC w S B M n) (hM:MapAt w M th dat N) (hk:(s+p) / 16=k) (ht:th k=true)
  (ha:s+p≤65536) (hs:BytesIn w F (some ⟨sb,so,none⟩) len f) (hp:p<T) (hT:T≤len) (off:Int) (ho:off=(s:Int)) :
  Calls Tryz.prog 167 #[Pq B,.int .i64 (off+(p:Int)),.slice (some ⟨sb,so+p,none⟩) (T - p) (dc - p)] w (fun e w'=>∃m:Nat,e=.returned (.int .i64 (m:Int))∧0<m∧p+m≤T∧s+p+m≤16*k+16 ∧
   MapAt w' M th (over dat (s+p) m (fun i=>f (p+i))) N∧Only (·=M) w w'):=by
 have h:=put_any S B M n N (s+p) k ((s+p) % 16) (T - p) (dc - p) (some ⟨sb,so+p,none⟩) th dat (fun i=>f (p+i)) w hb hM (by omega) (by omega) ha (hs.part hT) (by omega)
 rw [show off+(p:Int)=((s+p:Nat):Int) from by omega]
 refine h.mono fun e w' ⟨he,h1,h2⟩=>⟨_,he,by omega,by omega,by omega,?_,h2⟩
 rw [addN,Jb ht] at h1
 exact h1.ext (fun x=>by unfold updB;by_cases e:x=k <;> simp [e,ht]) (fun _=>rfl)
structure Mid (w wr:World) (S B M room used s p N:Nat) (b:AB) (f:Nat→UInt8):Prop where
 c:BodC wr S B M b.size
 m:MapAt wr M (thW b s (s+p)) (over b.dat s p f) N
 t:StoC wr S room (used+N - b.n)
 o:Only (fp S B M) w wr
 n:b.n≤N
 r:used+N - b.n≤room
theorem Mid.num {w wr:World} {S B M room used s p N:Nat} {b:AB} {f:Nat→UInt8} (h:Mid w wr S B M room used s p N b f) (ok:b.Ok) (hs:s+p≤65536):N=cnt 4096 (thW b s (s+p)) :=
 h.m.cnt fun _ hx=>thW_lt ok hs hx
theorem thW_n (b:AB) (s p:Nat) (f:Nat→UInt8):(wrB b s p f).n=cnt 4096 (thW b s (s+p)):=rfl
theorem Mid.below {w wr w':World} {S B M room used s p N:Nat} {b:AB} {f:Nat→UInt8} (h:Mid w wr S B M room used s p N b f) (hb:Below wr.heap.size wr w'):Mid w w' S B M room used s p N b f :=
 ⟨h.c.below (hb.block B (World.block_lt_of_cell? wr _ h.c.c0)),h.m.of_block (hb.block M h.m.lt),h.t.below (hb.block S (World.block_lt_of_cell? wr _ h.t.c0)),h.o.trans (Only.of_below hb),h.n,h.r⟩
theorem okW_step {wr:World} {M N:Nat} {b:AB} {used room s p m k:Nat} {f:Nat→UInt8} (ok:b.Ok) (hM:MapAt wr M (thW b s (s+p)) (over b.dat s p f) N) (hsp:s+p≤65536)
  (h:∀q,q<p→okW b used room s q) (hk:(s+p) / 16=k) (hm:s+p+m≤16*k+16) (hp:used+N - b.n<room∨thW b s (s+p) k=true):∀q,q<p+m→okW b used room s q:=by
 intro q hq
 have hN:=hM.cnt (N:=4096) fun _ hx=>thW_lt ok hsp hx
 by_cases h1:q<p
 ·exact h q h1
 ·by_cases h2:q=p
  ·subst h2
   unfold okW usedW
   rw [hk,←hN]
   exact hp.symm
  ·refine Or.inl ?_
   rw [show (s+q) / 16=k from by omega]
   unfold thW
   have:s<s+q∧s<16*k+16∧16*k<s+q:=by omega
   simp only [decide_eq_true this,Bool.or_true]
theorem okW_not {wr:World} {M N:Nat} {b:AB} {used room s p k:Nat} {f:Nat→UInt8} (ok:b.Ok) (hM:MapAt wr M (thW b s (s+p)) (over b.dat s p f) N) (hsp:s+p≤65536)
  (hk:(s+p) / 16=k) (ht:thW b s (s+p) k=false) (hu:¬used+N - b.n<room):¬okW b used room s p:=by
 have hN:=hM.cnt (N:=4096) fun _ hx=>thW_lt ok hsp hx
 unfold okW usedW
 rw [hk,←hN]
 rintro (h|h)
 ·rw [ht] at h;cases h
 ·exact hu h
theorem fin0 {w W:World} {S B M room used s T N len:Nat} {b:AB} {off:Int} {f:Nat→UInt8} (hb:Bod w S B M b) (hs:StoC w S room used) (hur:b.n≤used∧used≤room∧room≤65536) (hT:0<len∧T=min len (65536 - s)) (ho:off=(s:Int))
  (he:IsStop b used room s T 0) (hm:Mid w W S B M room used s 0 N b f) (hs3:off<65536:=by omega):WriteE w S B M room used b off len f (.returned (.tuple #[.int .i64 0,.int .i64 28])) W:=by
 subst ho
 have hw:wr b (s:Int) 0 f=b:=wrB_zero _ _ _
 have ma:MapAt W M b.th b.dat N:=hm.m.ext (fun x=>(thW_self b s x).symm) (fun i=>(over_self b.dat f s i).symm)
 have ja:Bod W S B M b:=Bod.of hm.c ma hb.ok
 have hN:N=b.n:=ma.cnt (N:=4096) fun k hk=>by have h1:=hb.ok.th k hk;have h2:=hb.ok.size;omega
 have qa:=hm.t
 rw [hN] at qa
 refine ⟨0,28,rfl,Or.inr (Or.inr (Or.inr ⟨by omega,hs3,hT.1,?_,rfl⟩)),by rw [hw];omega,?_⟩
 ·rw [Int.toNat_natCast,←hT.2];exact he
 ·rw [hw]
  exact ⟨qa,ja,hm.o⟩
theorem fin1 {w W:World} {S B M room used s T N len p:Nat} {b:AB} {off:Int} {f:Nat→UInt8} (hb:Bod w S B M b) (hne:S≠B∧S≠M∧B≠M) (hur:b.n≤used∧used≤room∧room≤65536) (hT:0<len∧T=min len (65536 - s)) (ho:off=(s:Int))
  (hT2:s+T≤65536) (he:IsStop b used room s T p) (hm:Mid w W S B M room used s p N b f) (hp:¬p=0) (hs3:off<65536:=by omega) :
  (b.size≤s+p→WriteE w S B M room used b off len f (.returned (.tuple #[.int .i64 (p:Int),.int .i64 0])) (W.setCell ⟨B,1,none⟩ (.int .i64 (off+(p:Int))))) ∧
  (s+p≤b.size→WriteE w S B M room used b off len f (.returned (.tuple #[.int .i64 (p:Int),.int .i64 0])) (W.setCell ⟨B,1,none⟩ (.int .i64 (b.size:Int)))):=by
 subst ho
 have hle:=he.le
 have hN:=hm.num hb.ok (by omega)
 have ma:(wrB b s p f).n=N:=by rw [thW_n,hN]
 have main:∀u:Nat,u=max b.size (s+p)→WriteE w S B M room used b (s:Int) len f (.returned (.tuple #[.int .i64 (p:Int),.int .i64 0])) (W.setCell ⟨B,1,none⟩ (.int .i64 (u:Int))):=by
  intro u hu
  have hw:wr b (s:Int) p f=wrB b s p f:=by unfold wr;rw [Int.toNat_natCast]
  have qa:(wrB b s p f).size=u:=by unfold wrB;dsimp only;rw [Ja hp,hu]
  refine ⟨p,0,rfl,Or.inr (Or.inr (Or.inr ⟨by omega,hs3,hT.1,?_,by rw [Ja hp]⟩)),?_,?_⟩
  ·rw [Int.toNat_natCast,←hT.2];exact he
  ·rw [hw,ma];exact hm.r
  ·rw [hw]
   refine ⟨?_,Bod.of (N:=N) ?_ ?_ (wrB_ok hb.ok (by omega) f),hm.o.setCell (Or.inr (Or.inl rfl)) _⟩
   ·rw [ma];exact hm.t.below (set_block hne.1)
   ·rw [qa];exact hm.c.set u
   ·exact hm.m.of_block (set_block fun e=>hne.2.2 e.symm)
 refine ⟨fun h=>?_,fun h=>main b.size (by omega)⟩
 have:=main (s+p) (by omega)
 rw [show ((s+p:Nat):Int)=(s:Int)+(p:Int) from by omega] at this
 exact this
theorem write_any (S B M room used len dc:Nat) (b:AB) (A:Option Addr) (off:Int) (f:Nat→UInt8) (w:World) (hb:Bod w S B M b) (hs0:StoC w S room used) (hu:b.n≤used) (hur:used≤room) (hr:room≤65536) (hSB:S≠B) (hSM:S≠M) (hBM:B≠M)
  (hA:BytesIn w (fp S B M) A len f) (hlc:len≤dc) (hdc:dc≤maxLen) :
  Calls Tryz.prog 107 #[Pq S,Pq B,.int .i64 off,.slice A len dc] w (WriteE w S B M room used b off len f):=by
 have ho:=owns_any S B M b.size w hb.c
 have fa:=World.block_lt_of_cell? w _ hs0.c0
 have hB:=hb.ltB
 have hM:=hb.ltM
 have kb:len≤9223372036854775807:=by unfold maxLen at hdc;omega
 clear hdc
 have Qj:=Qa (show ∀e v,WR b used room off len 0 v→e=.returned (.tuple #[.int .i64 0,.int .i64 v])→WriteE w S B M room used b off len f e w from fun e v h1 he=>by
  have hw:wr b off 0 f=b:=wrB_zero _ _ _
  refine ⟨0,v,he,h1,by rw [hw];omega,?_⟩
  rw [hw]
  exact ⟨by rw [Nat.add_sub_cancel];exact hs0,hb,Only.refl _ _⟩)
 by_cases h0:off<0
 ·have HP:=Qa (Qj.out _ 22 (Or.inl ⟨h0,rfl,rfl⟩) rfl)
  clear hB hM hSB hSM hBM hu hur hr
  go_enter Tryz.func107,Tryz.ntmps107
  go_wp2
  go_ret2
  exact HP.out
 have yc:0≤off:=by omega
 by_cases hl0:len=0
 ·have HP:=Qa (Qj.out _ 0 (Or.inr (Or.inl ⟨by omega,hl0,rfl,rfl⟩)) rfl)
  have fb:((len:Int) == 0)=true:=by simpa using hl0
  subst hl0
  clear hB hM hSB hSM hBM hu hur hr
  go_enter Tryz.func107,Tryz.ntmps107
  go_wp2_with (go_at_call 165;((with_reducible refine ho.mono ?_);rintro e w' ⟨rfl,rfl⟩))
  go_ret2
  exact HP.out
 have fb:((len:Int) == 0)=false:=by simpa using hl0
 by_cases kc:65536≤off
 ·have HP:=Qa (Qj.out _ 27 (Or.inr (Or.inr (Or.inl ⟨kc,by omega,rfl,rfl⟩))) rfl)
  have Qw:=Qa hl0
  clear hB hM hSB hSM hBM hu hur hr hl0
  go_enter Tryz.func107,Tryz.ntmps107
  go_wp2_with (go_at_call 165;((with_reducible refine ho.mono ?_);rintro e w' ⟨rfl,rfl⟩))
  go_ret2
  exact HP.out
 obtain ⟨s,hs⟩:∃s:Nat,off=(s:Int):=⟨off.toNat,by omega⟩
 obtain ⟨T,hT⟩:∃T,T=min len (65536 - s):=⟨_,rfl⟩
 have xb:T≤len:=by omega
 have yb:s+T≤65536:=by omega
 have bc:0<T:=by omega
 have HT:=Qa (show 0<len∧T=min len (65536 - s) from ⟨by omega,hT⟩)
 obtain ⟨sb,so,rfl,-⟩:=hA 0 (by omega)
 have key:(T=len∧(len:Int)≤(65536:Int) - off)∨((65536:Int) - off=(T:Int)∧¬((len:Int)≤(T:Int))):=by omega
 have Qw:=Qa hl0
 have Qc:=Qa hs
 have HB:=Qa hb
 have HS:=Qa hs0
 have HA:=Qa hA
 have Qg:=Qa (show S≠B∧S≠M∧B≠M from ⟨hSB,hSM,hBM⟩)
 have Qn:=Qa (show b.n≤used∧used≤room∧room≤65536 from ⟨hu,hur,hr⟩)
 have Qv:=Qa (show T≤dc from by omega)
 have Qs:=Qa (show Mid w w S B M room used s 0 b.n b f from ⟨hb.c,hb.m.ext (fun x=>thW_self b s x) (fun i=>over_self _ _ _ _),by rw [Nat.add_sub_cancel];exact hs0,Only.refl _ _,Nat.le_refl _,by omega⟩)
 have Qf:=Qa (show s+T≤65536∧T≤len from ⟨yb,xb⟩)
 have mc:off+(T:Int)≤65536:=by omega
 have rb:(len:Int)≤9223372036854775807:=by omega
 have fc:off<65536:=by omega
 clear hT yb xb kb hl0 hb hs hs0 hA hSB hSM hBM hu hur hr Qj
 have qd:off+(T:Int) - off=(T:Int):=by omega
 have jd:decide (65536≤off)=false:=by simp;omega
 rcases key with ⟨jc,hle⟩|⟨hd,hlt⟩
 ·subst jc
  go_enter Tryz.func107,Tryz.ntmps107
  go_wp2_with fail
  refine ho.mono ?_
  rintro e w' ⟨rfl,rfl⟩
  go_wp2_with fail
  go_loopg [12] T (fun g s12 wr=>∃p N:Nat,g+p=T∧s12=.int .i64 (off+(p:Int))∧Hid (Mid w wr S B M room used s p N b f)∧Hid (∀q,q<p→okW b used room s q))
  case atStart=>exact ⟨0,b.n,by omega,by simp,Qs,Qa (fun q hq=>absurd hq (Nat.not_lt_zero _))⟩
  case round =>
   clear Qs ho
   obtain ⟨p,N,hg,rfl,HM,HK⟩:=hrel
   have Qk:=Qa (HM.out.o.size)
   have pc:off+(p:Int) - off=(p:Int):=by omega
   by_cases hpT:p<T
   ·obtain ⟨k,hk⟩:∃k,k=(s+p) / 16:=⟨_,rfl⟩
    have xc:(off+(p:Int)) / 16=(k:Int):=by have:=Qc.out;omega
    have Qh:=Qa hk
    have ga:(p:Int)<(T:Int):=by omega
    have mb:¬dc=p:=by have:=Qv.out;omega
    clear hk
    cases ht:thW b s (s+p) k
    ·by_cases hroom:used+N - b.n<room
     ·have HP:=Qa (prov_make S B M b.size N k room (used+N - b.n) _ _ wr HM.out.c HM.out.m HM.out.t ht hroom Qn.out.2.2 Qg.out.2.1)
      have Ql:=Qa ht
      have Qo:=Qa hroom
      clear ht hroom
      go_wp2_with fail
      refine HP.out.mono ?_
      rintro e w2 ⟨rfl,hm2,ht2,ho2⟩
      have ja:=Nat.lt_of_lt_of_le hB Qk.out
      have sa:=HM.out.c.below (ho2.block B ja (by have:=Qg.out;intro h;rcases h with h|h;exact this.2.2 h;exact this.1 h.symm))
      have xa:=ho2.mono (G:=fp S B M) (by intro x hx;rcases hx with h|h;exact Or.inr (Or.inr h);exact Or.inl h)
      have Qd:=Qa (put_at S B M b.size (N+1) k T s p sb so dc T (fp S B M) _ _ f w2 sa hm2 Qh.out.symm (by unfold updB;rw [Jb rfl]) (by have:=Qf.out;omega) ((HA.out.only HM.out.o).only xa) hpT Qf.out.2 off Qc.out)
      have Qp:=Qa ht2
      have Qq:=Qa xa
      have Qt:=Qa sa
      clear hm2 ht2 ho2 xa sa HP
      go_wp2_with fail
      refine Qd.out.mono ?_
      rintro e w3 ⟨m,rfl,hm0,hm1,hm2,hm3,ho3⟩
      have la:=Nat.lt_of_lt_of_le ja Qq.out.size
      have Qb:=Qa (show Mid w w3 S B M room used s (p+m) (N+1) b f from ⟨Qt.out.below (ho3.block B la Qg.out.2.2),
       hm3.ext (fun x=>(thW_step Qh.out.symm hm0 hm2 x).trans (by unfold updB;by_cases e:x=k <;> simp [e])) (fun i=>over_step i),
       by have:=Qp.out;rw [show used+(N+1) - b.n=used+N - b.n+1 from by have:=HM.out.n;have:=Qn.out.1;omega];exact this.below (ho3.block S (Nat.lt_of_lt_of_le (Nat.lt_of_lt_of_le fa Qk.out) Qq.out.size) Qg.out.2.1),
       (HM.out.o.trans Qq.out).trans (ho3.mono fun x h=>Or.inr (Or.inr h)),by have:=HM.out.n;omega,by have:=Qo.out;omega⟩)
      have Qr:=Qa (show ∀q,q<p+m→okW b used room s q from okW_step HB.out.ok HM.out.m (by have:=Qf.out;omega) HK.out Qh.out.symm hm2 (Or.inl Qo.out))
      clear hm3 ho3 Qd hm2
      go_wp2_with fail
      go_roundg (gk - m)
      case measure=>omega
      case rel=>exact ⟨p+m,N+1,by omega,by go_num,Qb,Qr⟩
     ·have HP:=Qa (prov_full S B M b.size N k room (used+N - b.n) _ _ wr HM.out.c HM.out.m HM.out.t ht (by omega))
      have Ql:=Qa ht
      have Qo:=Qa hroom
      clear ht hroom
      go_wp2_with fail
      refine HP.out.mono ?_
      rintro e w2 ⟨rfl,hbl⟩
      have Qb:=Qa (HM.out.below hbl)
      have Qe:=Qa (show IsStop b used room s T p from ⟨by omega,HK.out,Or.inr (okW_not HB.out.ok HM.out.m (by have:=Qf.out;omega) Qh.out.symm Ql.out Qo.out)⟩)
      have ja:=Nat.lt_of_lt_of_le (Nat.lt_of_lt_of_le hB Qk.out) hbl.size
      have c1:=Qb.out.c.c1
      have f1:=Qb.out.c.f1
      clear hbl HP HM HK
      by_cases da:p=0
      ·subst da
       have HF:=Qa (fin0 (f:=f) HB.out HS.out Qn.out HT.out Qc.out Qe.out Qb.out)
       go_wp2_with fail
       go_ret2
       exact HF.out
      ·have jb:(off+(p:Int) == off)=false:=by simp;omega
       have HF:=Qa (fin1 (f:=f) HB.out Qg.out Qn.out HT.out Qc.out Qf.out.1 Qe.out Qb.out da)
       have ya:¬(off+(p:Int)≤(b.size:Int))∨(off+(p:Int)≤(b.size:Int)):=by omega
       clear da
       rcases ya with ya|ya
       ·have ma:=HF.out.1 (by have:=Qc.out;omega)
        have Qi:=Qa ma
        clear ma HF
        go_wp2_with fail
        go_ret2
        exact Qi.out
       ·have ma:=HF.out.2 (by have:=Qc.out;omega)
        have Qi:=Qa ma
        clear ma HF
        go_wp2_with fail
        go_ret2
        exact Qi.out
    ·have HP:=Qa (prov_there S B M b.size N k _ _ wr HM.out.c HM.out.m ht)
     have Ql:=Qa ht
     clear ht
     go_wp2_with fail
     refine HP.out.mono ?_
     rintro e w2 ⟨rfl,hbl⟩
     have qa:=HM.out.below hbl
     have Qd:=Qa (put_at S B M b.size N k T s p sb so dc T (fp S B M) _ _ f w2 qa.c qa.m Qh.out.symm Ql.out (by have:=Qf.out;omega) (HA.out.only qa.o) hpT Qf.out.2 off Qc.out)
     have Qm:=Qa qa
     have la:=Nat.lt_of_lt_of_le (Nat.lt_of_lt_of_le hB Qk.out) hbl.size
     have pb:=Nat.lt_of_lt_of_le (Nat.lt_of_lt_of_le fa Qk.out) hbl.size
     clear qa hbl HP
     go_wp2_with fail
     refine Qd.out.mono ?_
     rintro e w3 ⟨m,rfl,hm0,hm1,hm2,hm3,ho3⟩
     have Qb:=Qa (show Mid w w3 S B M room used s (p+m) N b f from ⟨Qm.out.c.below (ho3.block B la Qg.out.2.2),
      hm3.ext (fun x=>(thW_step Qh.out.symm hm0 hm2 x).trans (by have:=Ql.out;unfold updB;by_cases e:x=k <;> simp [e,this])) (fun i=>over_step i),
      Qm.out.t.below (ho3.block S pb Qg.out.2.1),Qm.out.o.trans (ho3.mono fun x h=>Or.inr (Or.inr h)),Qm.out.n,Qm.out.r⟩)
     have Qr:=Qa (show ∀q,q<p+m→okW b used room s q from okW_step HB.out.ok HM.out.m (by have:=Qf.out;omega) HK.out Qh.out.symm hm2 (Or.inr Ql.out))
     clear hm3 ho3 Qd hm2
     go_wp2_with fail
     go_roundg (gk - m)
     case measure=>omega
     case rel=>exact ⟨p+m,N,by omega,by go_num,Qb,Qr⟩
   ·have ba:p=T:=by omega
    have Qb:=HM
    have Qe:=Qa (show IsStop b used room s T p from ⟨by omega,HK.out,Or.inl ba⟩)
    have c1:=Qb.out.c.c1
    have f1:=Qb.out.c.f1
    have da:¬p=0:=by omega
    have ga:¬((p:Int)<(T:Int)):=by omega
    have ja:=Nat.lt_of_lt_of_le hB Qk.out
    have jb:(off+(p:Int) == off)=false:=by simp;omega
    have HF:=Qa (fin1 (f:=f) HB.out Qg.out Qn.out HT.out Qc.out Qf.out.1 Qe.out Qb.out da)
    have ya:¬(off+(p:Int)≤(b.size:Int))∨(off+(p:Int)≤(b.size:Int)):=by omega
    have Qx:=Qa ba
    clear da ba
    rcases ya with ya|ya
    ·have ma:=HF.out.1 (by have:=Qc.out;omega)
     have Qi:=Qa ma
     clear ma HF
     go_wp2_with fail
     go_ret2
     exact Qi.out
    ·have ma:=HF.out.2 (by have:=Qc.out;omega)
     have Qi:=Qa ma
     clear ma HF
     go_wp2_with fail
     go_ret2
     exact Qi.out
 ·go_enter Tryz.func107,Tryz.ntmps107
  go_wp2_with fail
  refine ho.mono ?_
  rintro e w' ⟨rfl,rfl⟩
  go_wp2_with fail
  go_loopg [12] T (fun g s12 wr=>∃p N:Nat,g+p=T∧s12=.int .i64 (off+(p:Int))∧Hid (Mid w wr S B M room used s p N b f)∧Hid (∀q,q<p→okW b used room s q))
  case atStart=>exact ⟨0,b.n,by omega,by simp,Qs,Qa (fun q hq=>absurd hq (Nat.not_lt_zero _))⟩
  case round =>
   clear Qs ho
   obtain ⟨p,N,hg,rfl,HM,HK⟩:=hrel
   have Qk:=Qa (HM.out.o.size)
   have pc:off+(p:Int) - off=(p:Int):=by omega
   by_cases hpT:p<T
   ·obtain ⟨k,hk⟩:∃k,k=(s+p) / 16:=⟨_,rfl⟩
    have xc:(off+(p:Int)) / 16=(k:Int):=by have:=Qc.out;omega
    have Qh:=Qa hk
    have ga:(p:Int)<(T:Int):=by omega
    have mb:¬dc=p:=by have:=Qv.out;omega
    clear hk
    cases ht:thW b s (s+p) k
    ·by_cases hroom:used+N - b.n<room
     ·have HP:=Qa (prov_make S B M b.size N k room (used+N - b.n) _ _ wr HM.out.c HM.out.m HM.out.t ht hroom Qn.out.2.2 Qg.out.2.1)
      have Ql:=Qa ht
      have Qo:=Qa hroom
      clear ht hroom
      go_wp2_with fail
      refine HP.out.mono ?_
      rintro e w2 ⟨rfl,hm2,ht2,ho2⟩
      have ja:=Nat.lt_of_lt_of_le hB Qk.out
      have sa:=HM.out.c.below (ho2.block B ja (by have:=Qg.out;intro h;rcases h with h|h;exact this.2.2 h;exact this.1 h.symm))
      have xa:=ho2.mono (G:=fp S B M) (by intro x hx;rcases hx with h|h;exact Or.inr (Or.inr h);exact Or.inl h)
      have Qd:=Qa (put_at S B M b.size (N+1) k T s p sb so dc len (fp S B M) _ _ f w2 sa hm2 Qh.out.symm (by unfold updB;rw [Jb rfl]) (by have:=Qf.out;omega) ((HA.out.only HM.out.o).only xa) hpT Qf.out.2 off Qc.out)
      have Qp:=Qa ht2
      have Qq:=Qa xa
      have Qt:=Qa sa
      clear hm2 ht2 ho2 xa sa HP
      go_wp2_with fail
      refine Qd.out.mono ?_
      rintro e w3 ⟨m,rfl,hm0,hm1,hm2,hm3,ho3⟩
      have la:=Nat.lt_of_lt_of_le ja Qq.out.size
      have Qb:=Qa (show Mid w w3 S B M room used s (p+m) (N+1) b f from ⟨Qt.out.below (ho3.block B la Qg.out.2.2),
       hm3.ext (fun x=>(thW_step Qh.out.symm hm0 hm2 x).trans (by unfold updB;by_cases e:x=k <;> simp [e])) (fun i=>over_step i),
       by have:=Qp.out;rw [show used+(N+1) - b.n=used+N - b.n+1 from by have:=HM.out.n;have:=Qn.out.1;omega];exact this.below (ho3.block S (Nat.lt_of_lt_of_le (Nat.lt_of_lt_of_le fa Qk.out) Qq.out.size) Qg.out.2.1),
       (HM.out.o.trans Qq.out).trans (ho3.mono fun x h=>Or.inr (Or.inr h)),by have:=HM.out.n;omega,by have:=Qo.out;omega⟩)
      have Qr:=Qa (show ∀q,q<p+m→okW b used room s q from okW_step HB.out.ok HM.out.m (by have:=Qf.out;omega) HK.out Qh.out.symm hm2 (Or.inl Qo.out))
      clear hm3 ho3 Qd hm2
      go_wp2_with fail
      go_roundg (gk - m)
      case measure=>omega
      case rel=>exact ⟨p+m,N+1,by omega,by go_num,Qb,Qr⟩
     ·have HP:=Qa (prov_full S B M b.size N k room (used+N - b.n) _ _ wr HM.out.c HM.out.m HM.out.t ht (by omega))
      have Ql:=Qa ht
      have Qo:=Qa hroom
      clear ht hroom
      go_wp2_with fail
      refine HP.out.mono ?_
      rintro e w2 ⟨rfl,hbl⟩
      have Qb:=Qa (HM.out.below hbl)
      have Qe:=Qa (show IsStop b used room s T p from ⟨by omega,HK.out,Or.inr (okW_not HB.out.ok HM.out.m (by have:=Qf.out;omega) Qh.out.symm Ql.out Qo.out)⟩)
      have ja:=Nat.lt_of_lt_of_le (Nat.lt_of_lt_of_le hB Qk.out) hbl.size
      have c1:=Qb.out.c.c1
      have f1:=Qb.out.c.f1
      clear hbl HP HM HK
      by_cases da:p=0
      ·subst da
       have HF:=Qa (fin0 (f:=f) HB.out HS.out Qn.out HT.out Qc.out Qe.out Qb.out)
       go_wp2_with fail
       go_ret2
       exact HF.out
      ·have jb:(off+(p:Int) == off)=false:=by simp;omega
       have HF:=Qa (fin1 (f:=f) HB.out Qg.out Qn.out HT.out Qc.out Qf.out.1 Qe.out Qb.out da)
       have ya:¬(off+(p:Int)≤(b.size:Int))∨(off+(p:Int)≤(b.size:Int)):=by omega
       clear da
       rcases ya with ya|ya
       ·have ma:=HF.out.1 (by have:=Qc.out;omega)
        have Qi:=Qa ma
        clear ma HF
        go_wp2_with fail
        go_ret2
        exact Qi.out
       ·have ma:=HF.out.2 (by have:=Qc.out;omega)
        have Qi:=Qa ma
        clear ma HF
        go_wp2_with fail
        go_ret2
        exact Qi.out
    ·have HP:=Qa (prov_there S B M b.size N k _ _ wr HM.out.c HM.out.m ht)
     have Ql:=Qa ht
     clear ht
     go_wp2_with fail
     refine HP.out.mono ?_
     rintro e w2 ⟨rfl,hbl⟩
     have qa:=HM.out.below hbl
     have Qd:=Qa (put_at S B M b.size N k T s p sb so dc len (fp S B M) _ _ f w2 qa.c qa.m Qh.out.symm Ql.out (by have:=Qf.out;omega) (HA.out.only qa.o) hpT Qf.out.2 off Qc.out)
     have Qm:=Qa qa
     have la:=Nat.lt_of_lt_of_le (Nat.lt_of_lt_of_le hB Qk.out) hbl.size
     have pb:=Nat.lt_of_lt_of_le (Nat.lt_of_lt_of_le fa Qk.out) hbl.size
     clear qa hbl HP
     go_wp2_with fail
     refine Qd.out.mono ?_
     rintro e w3 ⟨m,rfl,hm0,hm1,hm2,hm3,ho3⟩
     have Qb:=Qa (show Mid w w3 S B M room used s (p+m) N b f from ⟨Qm.out.c.below (ho3.block B la Qg.out.2.2),
      hm3.ext (fun x=>(thW_step Qh.out.symm hm0 hm2 x).trans (by have:=Ql.out;unfold updB;by_cases e:x=k <;> simp [e,this])) (fun i=>over_step i),
      Qm.out.t.below (ho3.block S pb Qg.out.2.1),Qm.out.o.trans (ho3.mono fun x h=>Or.inr (Or.inr h)),Qm.out.n,Qm.out.r⟩)
     have Qr:=Qa (show ∀q,q<p+m→okW b used room s q from okW_step HB.out.ok HM.out.m (by have:=Qf.out;omega) HK.out Qh.out.symm hm2 (Or.inr Ql.out))
     clear hm3 ho3 Qd hm2
     go_wp2_with fail
     go_roundg (gk - m)
     case measure=>omega
     case rel=>exact ⟨p+m,N,by omega,by go_num,Qb,Qr⟩
   ·have ba:p=T:=by omega
    have Qb:=HM
    have Qe:=Qa (show IsStop b used room s T p from ⟨by omega,HK.out,Or.inl ba⟩)
    have c1:=Qb.out.c.c1
    have f1:=Qb.out.c.f1
    have da:¬p=0:=by omega
    have ga:¬((p:Int)<(T:Int)):=by omega
    have ja:=Nat.lt_of_lt_of_le hB Qk.out
    have jb:(off+(p:Int) == off)=false:=by simp;omega
    have HF:=Qa (fin1 (f:=f) HB.out Qg.out Qn.out HT.out Qc.out Qf.out.1 Qe.out Qb.out da)
    have ya:¬(off+(p:Int)≤(b.size:Int))∨(off+(p:Int)≤(b.size:Int)):=by omega
    have Qx:=Qa ba
    clear da ba
    rcases ya with ya|ya
    ·have ma:=HF.out.1 (by have:=Qc.out;omega)
     have Qi:=Qa ma
     clear ma HF
     go_wp2_with fail
     go_ret2
     exact Qi.out
    ·have ma:=HF.out.2 (by have:=Qc.out;omega)
     have Qi:=Qa ma
     clear ma HF
     go_wp2_with fail
     go_ret2
     exact Qi.out
theorem own_slice {w:World} {b e sz n:Nat} {v:Value} {L:List Value} (h:w.ownsRow b e sz v n L):∃A c,v=.slice A n c:=by
 rcases h.2 with ⟨h1,h2⟩|⟨g,cap,cur,h1,_⟩
 ·exact ⟨none,0,by rw [h1,h2]⟩
 ·exact ⟨_,cap,h1⟩
theorem cell_new1 (w:World) (v:Value) (t:TypeId):∀j u,[v][j]?=some u→(w.alloc (.cells #[v] t)).cell? ((⟨w.heap.size,0,none⟩:Addr).add j)=some u:=by
 intro j u hj
 rcases j with _|j
 ·simp at hj
  subst hj
  simp [Addr.add]
 ·simp at hj
theorem cnt_none (N:Nat):cnt N (fun _=>false)=0:=by simp [cnt]
theorem cut_n (b:AB) (off:Int):(cut b off).n≤b.n:=by
 unfold cut
 split
 ·exact cnt_le fun k hk=>by unfold cutB at hk;simp only [Bool.and_eq_true] at hk;exact hk.1
 ·exact Nat.le_refl _
def strF (n:Nat) (f:Nat→UInt8):ByteArray:=⟨((List.range n).map f).toArray⟩
theorem conv_cells {w:World} {a:Addr} {n c:Nat} {f:Nat→UInt8} (h:∀i,i<n→w.cell? (a.add i)=some (U8 (f i))):(convert 53 9 (.slice (some a) n c)).run Tryz.prog w=.ok (.string (strF n f)) w:=by
 have:=run_convert_bytes_back (P:=Tryz.prog) w 53 9 5 a c ((List.range n).map f) Tryz.underlying53 Tryz.underlying5 Tryz.underlying9 (fun j hj=>by
  have ma:j<n:=by simpa using hj
  rw [h j ma]
  simp [U8])
 unfold strF
 simpa using this
theorem Row.conv {w:World} {lo n c:Nat} {A:Option Addr} {f:Nat→UInt8} (h:Row w lo A n c f):(convert 53 9 (.slice A n c)).run Tryz.prog w=.ok (.string (strF n f)) w:=by
 rcases h.2 with ⟨rfl,rfl⟩|⟨g,_,rfl,hg⟩
 ·exact Lib.run_convert_nil_bytes w 53 9 5 c Tryz.underlying53 Tryz.underlying5 Tryz.underlying9
 ·refine conv_cells fun i hi=>?_
  rw [add0,Nat.zero_add,cell_of_row _ _ i _ 5 (0,0) hg]
  have:=rowF_get f hi
  simpa using this
def tL (T:Nat) (th:Nat→Bool):List Value:=(List.range T).map fun k=>.bool (th k)
theorem tL_length (T:Nat) (th:Nat→Bool):(tL T th).length=T:=by simp [tL]
theorem tL_get {T k:Nat} (th:Nat→Bool) (hk:k<T):(tL T th)[k]?=some (.bool (th k)):=by simp [tL,hk]
theorem own_val {w:World} {b e n:Nat} {v:Value} {L:List Value} (h:w.ownsRow b e 1 v n L) {i:Nat} {u:Value} (hu:L[i]?=some u) (hi:i<n):∃g c,v=.slice (some ⟨g,0,none⟩) n c∧b≤g∧g<w.heap.size∧w.cell? ⟨g,i,none⟩=some u:=by
 have hl:=h.lt
 rcases h.2 with ⟨h1,h2⟩|⟨g,cap,cur,h1,_⟩
 ·omega
 ·subst h1
  obtain ⟨h3,h4⟩:=hl g rfl
  have:=h.cells (g:=g) rfl i u hu
  rw [add0,Nat.zero_add] at this
  exact ⟨g,cap,rfl,h3,h4,this⟩
theorem cnt_succ (k:Nat) (th:Nat→Bool):cnt (k+1) th=cnt k th+if th k then 1 else 0:=by
 unfold cnt
 rw [List.range_succ,List.filter_append]
 cases h:th k <;> simp [h]
theorem lit_empty (w:World) (base:Nat) (e:TypeId) (hb:base≤w.heap.size):(w.alloc (.cells #[] e)).ownsRow base e 1 (.slice (some ⟨w.heap.size,0,none⟩) 0 0) 0 [] :=
 World.ownsRow_made w #[] 0 hb (by unfold maxLen;omega) rfl
theorem rowF_snoc (n:Nat) (f:Nat→UInt8):rowF (n+1) f=rowF n f++[U8 (f n)]:=by
 unfold rowF;rw [List.range_succ,List.map_append];rfl
def RReadE (w:World) (b:AB) (off n:Int) (e:Ending) (w':World):Prop :=
 ∃v,e=.returned (.tuple #[v,.int .i64 (readR b off n).1])∧w'.ownsRow w.heap.size 5 1 v (readR b off n).2 (rowF (readR b off n).2 (fun j=>b.dat (off.toNat+j)))∧Below w.heap.size w w'
def RF (C:Nat) (vB vT:Value) (x:Nat):Prop:=x=C∨vB.ownBlock=some x∨vT.ownBlock=some x
theorem own_fro {w:World} {b e n c g:Nat} {L:List Value} (h:w.ownsRow b e 1 (.slice (some ⟨g,0,none⟩) n c) n L) (i:Nat):w.frozen? ⟨g,i,none⟩=false:=by
 rcases h.2 with ⟨h1,_⟩|⟨g',cap,cur,h1,_,h3,_⟩
 ·injection h1 with h1;cases h1
 ·injection h1 with h1
  injection h1 with h1
  injection h1 with h1 _
  subst h1
  simp [World.frozen?,h3]
theorem own_set {w:World} {b e n c g i:Nat} {L:List Value} {u:Value} (h:w.ownsRow b e 1 (.slice (some ⟨g,0,none⟩) n c) n L) (hi:i<n) (hu:u.oneCell'=true):(w.setCell ⟨g,i,none⟩ u).ownsRow b e 1 (.slice (some ⟨g,0,none⟩) n c) n (L.set i u):=by
 refine ⟨by rw [List.length_set];exact h.1,?_⟩
 rcases h.2 with ⟨h1,_⟩|⟨g',cap,cur,h1,h2,h3,h4,h5,h6,h7⟩
 ·injection h1 with h1;cases h1
 ·injection h1 with h1 _ hc
  injection h1 with h1
  injection h1 with h1 _
  subst h1;subst hc
  refine Or.inr ⟨g,c,cur.setIfInBounds i u,rfl,h2,?_,h4,h5,by simpa using h6,?_⟩
  ·rw [setCell_eq_setRow w g i cur e (0,0) u h3]
   exact setRow_heap w g cur _ e _ h3
  ·rw [Array.toList_setIfInBounds,List.take_set,h7]
theorem set_only' (w:World) (h i:Nat) (v:Value):Only (fun x=>x=h) w (w.setCell ⟨h,i,none⟩ v):=(Only.refl (fun x=>x=h) w).setCell (p:=⟨h,i,none⟩) rfl v
theorem own_only {w w':World} {lo e n:Nat} {v:Value} {L:List Value} {F:Nat→Prop} (h:w.ownsRow lo e 1 v n L) (ho:Only F w w') (hv:∀g,v.ownBlock=some g→¬F g):w'.ownsRow lo e 1 v n L:=by
 refine ⟨h.1,?_⟩
 rcases h.2 with h1|⟨g,cap,cur,h1,h2,h3,h4⟩
 ·exact Or.inl h1
 ·refine Or.inr ⟨g,cap,cur,h1,h2,?_,h4⟩
  rw [ho.block g (Array.getElem?_eq_some_iff.1 h3).1 (hv g (by rw [h1];rfl))]
  exact h3
theorem grown_only {w w':World} {r:Option Nat} (h:w.grownBy w' r):Only (fun x=>r=some x) w w':=⟨h.os,h.tape,h.output,h.size,fun k hk hf=>h.block k hk (fun e=>hf e.symm)⟩
theorem tL_snoc {T:Nat} {th:Nat→Bool} (h:th T=false):tL (T+1) th=tL T th++[.bool false]:=by
 unfold tL;rw [List.range_succ,List.map_append];simp [h]
theorem tL_set {T k:Nat} {th:Nat→Bool} (hk:k<T) (u:Bool):(tL T th).set k (.bool u)=tL T (updB th k u):=by
 apply List.ext_getElem?
 intro i
 rw [List.getElem?_set]
 by_cases hi:i<T
 ·rw [tL_get (updB th k u) hi]
  by_cases e:k=i
  ·subst e;simp [tL_length,hk,updB]
  ·rw [Ja e,tL_get th hi]
   unfold updB;rw [Ja (fun h=>e h.symm)]
 ·rw [Ja (by omega),List.getElem?_eq_none (by rw [tL_length];omega),List.getElem?_eq_none (by rw [tL_length];omega)]
def updD (f:Nat→UInt8) (a:Nat) (x:UInt8):Nat→UInt8:=fun i=>if i=a then x else f i
theorem rowF_set {n k:Nat} {f:Nat→UInt8} (hk:k<n) (x:UInt8):(rowF n f).set k (U8 x)=rowF n (updD f k x):=by
 apply List.ext_getElem?
 intro i
 rw [List.getElem?_set]
 by_cases hi:i<n
 ·rw [rowF_get (updD f k x) hi]
  by_cases e:k=i
  ·subst e;simp [rowF_length,hk,updD]
  ·rw [Ja e,rowF_get f hi]
   unfold updD;rw [Ja (fun h=>e h.symm)]
 ·rw [Ja (by omega),List.getElem?_eq_none (by rw [rowF_length];omega),List.getElem?_eq_none (by rw [rowF_length];omega)]
theorem AB_ext {a b:AB} (h1:a.size=b.size) (h2:∀k,a.th k=b.th k) (h3:∀i,a.dat i=b.dat i):a=b:=by
 obtain ⟨n,t,d⟩:=a
 obtain ⟨m,u,e⟩:=b
 obtain rfl:n=m:=h1
 obtain rfl:t=u:=funext h2
 obtain rfl:d=e:=funext h3
 rfl
theorem cnt_add {N k:Nat} {th:Nat→Bool} (hk:k<N) (ht:th k=false):cnt N (updB th k true)=cnt N th+1:=by
 induction N with
 | zero=>omega
 | succ N ih =>
  rw [cnt_succ,cnt_succ]
  by_cases e:k=N
  ·subst e
   have h1:cnt k (updB th k true)=cnt k th:=by
    unfold cnt
    congr 1
    apply List.filter_congr
    intro x hx
    unfold updB
    rw [Ja (by have:=List.mem_range.1 hx;omega)]
   rw [h1,ht]
   unfold updB
   simp
  ·have h2:updB th k true N=th N:=by unfold updB;rw [Ja (fun h=>e h.symm)]
   rw [ih (by omega),h2]
   omega
theorem cnt_max (N:Nat) (f:Nat→Bool):cnt N f≤N:=by
 unfold cnt
 exact Nat.le_trans (List.length_filter_le _ _) (by simp)
end bl
end Go.Proofs.YtgoddboicjfkcaaGreat
