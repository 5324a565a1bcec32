/- Part 52 of what is known of the program's functions and of the document's words: contracts, and the mathematics beneath them. -/
import Derived.Test.YtpmpbmjjlccbbaaGreatProg
import Derived.Test.YtpmpbmjjlccbbaaGreatZ49
import Derived.Test.YtpmpbmjjlccbbaaGreatZ51
import Derived.Test.YtpmpbmjjlccbbaaGreatZ27
import Derived.Test.YtpmpbmjjlccbbaaGreatZ33
set_option linter.unusedVariables false
set_option linter.unusedSimpArgs false
set_option maxRecDepth 100000
set_option maxHeartbeats 8000000
namespace Go.Proofs.YtpmpbmjjlccbbaaGreat.tr
open Go.RowKit
open br (BS Inv Ino)
open cb (BrX RetW RetI)
open bl (Pq)
open wk (walkT pe pn pd e0 r0 dot1 dot2)
open ds (De Tb DA DV DL GetE StE IntsE lowV openT getV errV setT closeT full allT dz)
open pa (Bs Sv Strs Own own_form info9 own_base)
theorem callF_gen {f:FuncId} {fn:Func} (hf:Tryz.prog.funcs[f]?=some fn) (hname:(fn.name == "runtime.NumGoroutine")=false) (hb:fn.body.isNone=false) (args:Array Value) (w:World):(callFunc f args).run Tryz.prog w=.ok (.enter f args) w:=by
 obtain ⟨c,hc⟩:∃ c,fn.body=some c:=by cases hx:fn.body with|none=>(rw [hx] at hb;cases hb)|some c=>exact ⟨c,rfl⟩
 have hn:fn.name≠"runtime.NumGoroutine":=by intro e;rw [e] at hname;simp at hname
 simp [callFunc,go_sem,hf,hn,hc]
theorem callF (k:Nat) (k1:1≤k) (k2:k≤20) (args:Array Value) (W:World):(callFunc (59+k) args).run Tryz.prog W=.ok (.enter (59+k) args) W:=by
 have hk:k=1∨k=2∨k=3∨k=4∨k=5∨k=6∨k=7∨k=8∨k=9∨k=10∨k=11∨k=12∨k=13∨k=14∨k=15∨k=16∨k=17∨k=18∨k=19∨k=20:=by omega
 rcases hk with rfl|rfl|rfl|rfl|rfl|rfl|rfl|rfl|rfl|rfl|rfl|rfl|rfl|rfl|rfl|rfl|rfl|rfl|rfl|rfl
 ·exact callF_gen Tryz.func60 (by kernel_rfl) (by kernel_rfl) args W
 ·exact callF_gen Tryz.func61 (by kernel_rfl) (by kernel_rfl) args W
 ·exact callF_gen Tryz.func62 (by kernel_rfl) (by kernel_rfl) args W
 ·exact callF_gen Tryz.func63 (by kernel_rfl) (by kernel_rfl) args W
 ·exact callF_gen Tryz.func64 (by kernel_rfl) (by kernel_rfl) args W
 ·exact callF_gen Tryz.func65 (by kernel_rfl) (by kernel_rfl) args W
 ·exact callF_gen Tryz.func66 (by kernel_rfl) (by kernel_rfl) args W
 ·exact callF_gen Tryz.func67 (by kernel_rfl) (by kernel_rfl) args W
 ·exact callF_gen Tryz.func68 (by kernel_rfl) (by kernel_rfl) args W
 ·exact callF_gen Tryz.func69 (by kernel_rfl) (by kernel_rfl) args W
 ·exact callF_gen Tryz.func70 (by kernel_rfl) (by kernel_rfl) args W
 ·exact callF_gen Tryz.func71 (by kernel_rfl) (by kernel_rfl) args W
 ·exact callF_gen Tryz.func72 (by kernel_rfl) (by kernel_rfl) args W
 ·exact callF_gen Tryz.func73 (by kernel_rfl) (by kernel_rfl) args W
 ·exact callF_gen Tryz.func74 (by kernel_rfl) (by kernel_rfl) args W
 ·exact callF_gen Tryz.func75 (by kernel_rfl) (by kernel_rfl) args W
 ·exact callF_gen Tryz.func76 (by kernel_rfl) (by kernel_rfl) args W
 ·exact callF_gen Tryz.func77 (by kernel_rfl) (by kernel_rfl) args W
 ·exact callF_gen Tryz.func78 (by kernel_rfl) (by kernel_rfl) args W
 ·exact callF_gen Tryz.func79 (by kernel_rfl) (by kernel_rfl) args W
theorem do_run {w0 w:World} {P B Q room T:Nat} {X:Nat→Prop} {y:Sy} {rel:Res→Sy→Prop} (k:Nat) (k1:1≤k) (k2:k≤20) (h:SyX w0 w P B Q X y room T) (c:Cal) (hk:c.op=(k:Int))
  (hm:∀ (W:World) (Z:Nat→Prop),SyX w0 W P B Q Z y room T→Calls Tryz.prog (59+k) #[Pq P,CV c] W (ME w0 W P B Q Z room (T+3) rel)) :
  Calls Tryz.prog 17 #[Pq P,CV c] w (ME w0 w P B Q X room (T+3) rel):=by
 obtain ⟨co,cf,cl,cn,cx,ca,cb⟩:=c
 have hhR:=Lib.hid h
 dsimp only at hk
 subst hk
 have HM0:=Lib.hid hm
 unfold CV
 obtain ⟨g,b,w1,w2,hg,hw1,hb,hw2,HG2,HR2,HQ,H2⟩:=m_entry h (k:Int) cf cl cn cx ca cb
 have HD:=Lib.hid (me_done (w0:=w0) (w:=w) (P:=P) (B:=B) (Q:=Q) (X:=X) (room:=room) (T:=T+3) (rel:=rel))
 obtain ⟨c0,c1,c2,c3,c4,c5,c6⟩:=HG2.out.seven
 unfold ME
 clear h hm
 have HM:=Lib.hid (HM0.out w2 _ H2.out.sy)
 have HE:=Lib.hid (show Calls Tryz.prog 31 #[Pq P,.int .i64 (k:Int)] w2 (fun e w'=>e=.returned (.func (.func (59+k)) #[.pointer (some ⟨P,0,none⟩)] #[])∧w2=w') from (effect_any P k w2 k1 k2).mono fun _ _ h=>⟨h.1,h.2.symm⟩)
 unfold ME CV at HM
 dsimp only at HM
 have q1:¬ ((k:Int)<1):=by omega
 have q2:¬ ((k:Int) > 20):=by omega
 have hcf:=callF k k1 k2
 clear HM0
 go_enter Tryz.func17,Tryz.ntmps17
 go_wp2_with fail
 refine HE.out.mono ?_
 rintro _ w3 ⟨rfl,rfl⟩
 go_wp2_with fail
 refine HM.out.mono ?_
 rintro _ w4 ⟨r,y',rfl,hr,k3,k4⟩
 have HR:=Lib.hid hr
 have H4:=Lib.hid (H2.out.move k3 k4)
 have HR4:=Lib.hid (HR2.out.keep k4 HQ.out.2.1.1 HQ.out.2.1.2 k3)
 clear hr k3 k4 c0 c1 c2 c3 c4 c5 c6
 obtain ⟨re,rn,rs,rk,rz,rl⟩:=r
 unfold RVr
 dsimp only
 obtain ⟨z1,hz1⟩:∃ z1:Int,(rz:Int)=z1:=⟨_,rfl⟩
 have HZ:=Lib.hid hz1
 rw [hz1]
 clear hz1
 obtain ⟨x0,x1,x2,x3,x4,x5⟩:=HR4.out.six
 obtain ⟨y0,y1,y2,y3,y4,y5⟩:=HR4.out.z6
 go_wp2_with fail
 refine bodyPost_ret (results_cell1 rfl _ _ b _ _ rfl (set6r HR4.out _ _ _ _ _ _).range Tryz.underlying39 (by rfl) (by rfl)) rfl ?_
 have hz:=HZ.out
 subst hz
 exact HD.out _ _ _ (HR.out) ((H4.out.set6 HQ.out.2.1.1 HQ.out.2.1.2 _ _ _ _ _ _).up (by omega:T+3≤T+3)).done
theorem do_no {w0 w:World} {P B Q room T:Nat} {X:Nat→Prop} {y:Sy} (h:SyX w0 w P B Q X y room T) (hT:T≤990) (hh:Hd room y) (hl:Lim y.T) (c:Cal) (hk:c.op<1∨20<c.op) :
  Calls Tryz.prog 17 #[Pq P,CV c] w (ME w0 w P B Q X room (T+3) (fun r y'=>r=wrong 22∧y'=y)):=by
 obtain ⟨co,cf,cl,cn,cx,ca,cb⟩:=c
 have hhR:=Lib.hid h
 have HH:=Lib.hid hh
 unfold CV
 dsimp only at hk ⊢
 obtain ⟨g,b,w1,w2,hg,hw1,hb,hw2,HG2,HR2,HQ,H2⟩:=m_entry h co cf cl cn cx ca cb
 have HD:=Lib.hid (me_done (w0:=w0) (w:=w) (P:=P) (B:=B) (Q:=Q) (X:=X) (room:=room) (T:=T+3) (rel:=fun r y'=>r=wrong 22∧y'=y))
 have HT:=Lib.hid hT
 obtain ⟨c0,c1,c2,c3,c4,c5,c6⟩:=HG2.out.seven
 unfold ME
 clear h hT hh
 by_cases h1:co<1
 case pos =>
  go_enter Tryz.func17,Tryz.ntmps17
  go_wp2_with fail
  refine (failed_any (22) w2).mono ?_
  rintro _ w7 ⟨rfl,hb7⟩
  have H7:=Lib.hid ((H2.out).below hb7)
  have HR7:=Lib.hid ((HR2.out).below hb7)
  obtain ⟨x0,x1,x2,x3,x4,x5⟩:=HR7.out.six
  obtain ⟨y0,y1,y2,y3,y4,y5⟩:=HR7.out.z6
  clear hb7 c0 c1 c2 c3 c4 c5 c6
  go_wp2_with fail
  refine bodyPost_ret (results_cell1 rfl _ _ b _ _ rfl (set6r HR7.out _ _ _ _ _ _).range Tryz.underlying39 (by rfl) (by rfl)) rfl ?_
  exact HD.out _ _ _ (⟨rfl,rfl⟩) ((H7.out.set6 HQ.out.2.1.1 HQ.out.2.1.2 _ _ _ _ _ _).up (by omega:T≤T+3)).done
 have h2:co > 20:=by omega
 go_enter Tryz.func17,Tryz.ntmps17
 go_wp2_with fail
 refine (failed_any (22) w2).mono ?_
 rintro _ w7 ⟨rfl,hb7⟩
 have H7:=Lib.hid ((H2.out).below hb7)
 have HR7:=Lib.hid ((HR2.out).below hb7)
 obtain ⟨x0,x1,x2,x3,x4,x5⟩:=HR7.out.six
 obtain ⟨y0,y1,y2,y3,y4,y5⟩:=HR7.out.z6
 clear hb7 c0 c1 c2 c3 c4 c5 c6
 go_wp2_with fail
 refine bodyPost_ret (results_cell1 rfl _ _ b _ _ rfl (set6r HR7.out _ _ _ _ _ _).range Tryz.underlying39 (by rfl) (by rfl)) rfl ?_
 exact HD.out _ _ _ (⟨rfl,rfl⟩) ((H7.out.set6 HQ.out.2.1.1 HQ.out.2.1.2 _ _ _ _ _ _).up (by omega:T≤T+3)).done
theorem Do_gen {w0 w:World} {P B Q room T:Nat} {X:Nat→Prop} {y:Sy} (h:SyX w0 w P B Q X y room T) (hT:T≤990) (hh:Hd room y) (hl:Lim y.T) (c:Cal) (hsa:c.op=4∨c.op=6∨c.op=15→c.a.size≤1000000) :
  Calls Tryz.prog 17 #[Pq P,CV c] w (ME w0 w P B Q X room (T+3) (Does room y c)):=by
 have mk:∀ rel:Res→Sy→Prop,(∀ r y',rel r y'→Does room y c r y')→Calls Tryz.prog 17 #[Pq P,CV c] w (ME w0 w P B Q X room (T+3) rel)→Calls Tryz.prog 17 #[Pq P,CV c] w (ME w0 w P B Q X room (T+3) (Does room y c)):=fun rel hr k=>k.mono fun _ _ ⟨r,y',a,b,c,d⟩=>⟨r,y',a,hr r y' b,c,d⟩
 have hD:∀ r y',Does room y c r y'=Does room y c r y':=fun _ _=>rfl
 by_cases h0:c.op<1∨20<c.op
 ·exact mk _ (fun r y' k=>by
   unfold Does
   iterate 20 rw [if_neg (by omega)]
   exact k) (do_no h hT hh hl c h0)
 by_cases h1:c.op=1
 ·refine mk _ (fun r y' q=>?_) (do_run 1 (by decide) (by decide) h c h1 fun W Z hW=>m_open hW hT hh c)
  unfold Does
  rw [if_pos h1]
  exact q
 by_cases h2:c.op=2
 ·refine mk _ (fun r y' q=>?_) (do_run 2 (by decide) (by decide) h c h2 fun W Z hW=>m_close hW hT hh c)
  unfold Does
  iterate 1 rw [if_neg (by omega)]
  rw [if_pos h2]
  exact q
 by_cases h3:c.op=3
 ·refine mk _ (fun r y' q=>?_) (do_run 3 (by decide) (by decide) h c h3 fun W Z hW=>m_read hW hT hh hl c)
  unfold Does
  iterate 2 rw [if_neg (by omega)]
  rw [if_pos h3]
  exact q
 by_cases h4:c.op=4
 ·refine mk _ (fun r y' q=>?_) (do_run 4 (by decide) (by decide) h c h4 fun W Z hW=>m_write hW hT hh hl c (hsa (by omega)))
  unfold Does
  iterate 4 rw [if_neg (by omega)]
  rw [if_pos h4]
  exact q
 by_cases h5:c.op=5
 ·refine mk _ (fun r y' q=>?_) (do_run 5 (by decide) (by decide) h c h5 fun W Z hW=>m_pread hW hT hh hl c)
  unfold Does
  iterate 3 rw [if_neg (by omega)]
  rw [if_pos h5]
  exact q
 by_cases h6:c.op=6
 ·refine mk _ (fun r y' q=>?_) (do_run 6 (by decide) (by decide) h c h6 fun W Z hW=>m_pwrite hW hT hh hl c (hsa (by omega)))
  unfold Does
  iterate 5 rw [if_neg (by omega)]
  rw [if_pos h6]
  exact q
 by_cases h7:c.op=7
 ·refine mk _ (fun r y' q=>?_) (do_run 7 (by decide) (by decide) h c h7 fun W Z hW=>m_seek hW hT hh hl c)
  unfold Does
  iterate 6 rw [if_neg (by omega)]
  rw [if_pos h7]
  exact q
 by_cases h8:c.op=8
 ·refine mk _ (fun r y' q=>?_) (do_run 8 (by decide) (by decide) h c h8 fun W Z hW=>m_cut hW hT hh c)
  unfold Does
  iterate 7 rw [if_neg (by omega)]
  rw [if_pos h8]
  exact q
 by_cases h9:c.op=9
 ·refine mk _ (fun r y' q=>?_) (do_run 9 (by decide) (by decide) h c h9 fun W Z hW=>m_stat hW hT hh c)
  unfold Does
  iterate 8 rw [if_neg (by omega)]
  rw [if_pos h9]
  exact q
 by_cases h10:c.op=10
 ·refine mk _ (fun r y' q=>?_) (do_run 10 (by decide) (by decide) h c h10 fun W Z hW=>m_lstat hW hT hh c)
  unfold Does
  iterate 9 rw [if_neg (by omega)]
  rw [if_pos h10]
  exact q
 by_cases h11:c.op=11
 ·refine mk _ (fun r y' q=>?_) (do_run 11 (by decide) (by decide) h c h11 fun W Z hW=>m_mkdir hW hT hh c)
  unfold Does
  iterate 10 rw [if_neg (by omega)]
  rw [if_pos h11]
  exact q
 by_cases h12:c.op=12
 ·refine mk _ (fun r y' q=>?_) (do_run 12 (by decide) (by decide) h c h12 fun W Z hW=>m_rmdir hW hT hh c)
  unfold Does
  iterate 11 rw [if_neg (by omega)]
  rw [if_pos h12]
  exact q
 by_cases h13:c.op=13
 ·refine mk _ (fun r y' q=>?_) (do_run 13 (by decide) (by decide) h c h13 fun W Z hW=>m_unlink hW hT hh c)
  unfold Does
  iterate 12 rw [if_neg (by omega)]
  rw [if_pos h13]
  exact q
 by_cases h14:c.op=14
 ·refine mk _ (fun r y' q=>?_) (do_run 14 (by decide) (by decide) h c h14 fun W Z hW=>m_link hW hT hh c)
  unfold Does
  iterate 13 rw [if_neg (by omega)]
  rw [if_pos h14]
  exact q
 by_cases h15:c.op=15
 ·refine mk _ (fun r y' q=>?_) (do_run 15 (by decide) (by decide) h c h15 fun W Z hW=>m_symlink hW hT hh c (hsa (by omega)))
  unfold Does
  iterate 14 rw [if_neg (by omega)]
  rw [if_pos h15]
  exact q
 by_cases h16:c.op=16
 ·refine mk _ (fun r y' q=>?_) (do_run 16 (by decide) (by decide) h c h16 fun W Z hW=>m_readlink hW hT hh c)
  unfold Does
  iterate 15 rw [if_neg (by omega)]
  rw [if_pos h16]
  exact q
 by_cases h17:c.op=17
 ·refine mk _ (fun r y' q=>?_) (do_run 17 (by decide) (by decide) h c h17 fun W Z hW=>m_rename hW hT hh c)
  unfold Does
  iterate 16 rw [if_neg (by omega)]
  rw [if_pos h17]
  exact q
 by_cases h18:c.op=18
 ·refine mk _ (fun r y' q=>?_) (do_run 18 (by decide) (by decide) h c h18 fun W Z hW=>m_opendir hW hT hh hl c)
  unfold Does
  iterate 17 rw [if_neg (by omega)]
  rw [if_pos h18]
  exact q
 by_cases h19:c.op=19
 ·refine mk _ (fun r y' q=>?_) (do_run 19 (by decide) (by decide) h c h19 fun W Z hW=>m_readdir hW hT hh hl c)
  unfold Does
  iterate 18 rw [if_neg (by omega)]
  rw [if_pos h19]
  exact q
 by_cases h20:c.op=20
 ·refine mk _ (fun r y' q=>?_) (do_run 20 (by decide) (by decide) h c h20 fun W Z hW=>m_rewind hW hT hh hl c)
  unfold Does
  iterate 19 rw [if_neg (by omega)]
  rw [if_pos h20]
  exact q
 omega
theorem Do_any {w0 w:World} {P B Q room T:Nat} {X:Nat→Prop} {y:Sy} (h:SyX w0 w P B Q X y room T) (hT:T≤990) (hh:Hd room y) (hl:Lim y.T) (c:Cal) (hsa:c.a.size≤4096) (hsb:c.b.size≤4096) :
 Calls Tryz.prog 17 #[Pq P,CV c] w (ME w0 w P B Q X room (T+3) (Does room y c)):=Do_gen h hT hh hl c fun _=>by omega
end Go.Proofs.YtpmpbmjjlccbbaaGreat.tr
namespace Go.Proofs.YtpmpbmjjlccbbaaGreat.tr
open br (BS Inv Ino fresh)
open wk (walkT pe pn pd e0 r0 dot1 dot2)
open cb (trS readI walkF walkF_eq)
open bl (AB IsStop okW WR)
open ds (De Tb dz em low lowV openT getV errV setT closeT spot full allT put)
theorem is_1 {room:Nat} {y y':Sy} {c:Cal} {r:Res} (h:Does room y c r y') (hk:c.op=1):(r,y')=doOpen y c:=by
 unfold Does at h
 rw [if_pos hk] at h
 exact h
theorem is_2 {room:Nat} {y y':Sy} {c:Cal} {r:Res} (h:Does room y c r y') (hk:c.op=2):(r,y')=doClose y c:=by
 unfold Does at h
 iterate 1 rw [if_neg (by omega)] at h
 rw [if_pos hk] at h
 exact h
theorem is_3 {room:Nat} {y y':Sy} {c:Cal} {r:Res} (h:Does room y c r y') (hk:c.op=3):(r,y')=doRead y c false:=by
 unfold Does at h
 iterate 2 rw [if_neg (by omega)] at h
 rw [if_pos hk] at h
 exact h
theorem is_4 {room:Nat} {y y':Sy} {c:Cal} {r:Res} (h:Does room y c r y') (hk:c.op=4):DoWrite room y c false r y':=by
 unfold Does at h
 iterate 4 rw [if_neg (by omega)] at h
 rw [if_pos hk] at h
 exact h
theorem is_5 {room:Nat} {y y':Sy} {c:Cal} {r:Res} (h:Does room y c r y') (hk:c.op=5):(r,y')=doRead y c true:=by
 unfold Does at h
 iterate 3 rw [if_neg (by omega)] at h
 rw [if_pos hk] at h
 exact h
theorem is_6 {room:Nat} {y y':Sy} {c:Cal} {r:Res} (h:Does room y c r y') (hk:c.op=6):DoWrite room y c true r y':=by
 unfold Does at h
 iterate 5 rw [if_neg (by omega)] at h
 rw [if_pos hk] at h
 exact h
theorem is_7 {room:Nat} {y y':Sy} {c:Cal} {r:Res} (h:Does room y c r y') (hk:c.op=7):(r,y')=doSeek y c:=by
 unfold Does at h
 iterate 6 rw [if_neg (by omega)] at h
 rw [if_pos hk] at h
 exact h
theorem is_8 {room:Nat} {y y':Sy} {c:Cal} {r:Res} (h:Does room y c r y') (hk:c.op=8):(r,y')=doCut y c:=by
 unfold Does at h
 iterate 7 rw [if_neg (by omega)] at h
 rw [if_pos hk] at h
 exact h
theorem is_9 {room:Nat} {y y':Sy} {c:Cal} {r:Res} (h:Does room y c r y') (hk:c.op=9):r=doStat y c true∧y'=y:=by
 unfold Does at h
 iterate 8 rw [if_neg (by omega)] at h
 rw [if_pos hk] at h
 exact h
theorem is_10 {room:Nat} {y y':Sy} {c:Cal} {r:Res} (h:Does room y c r y') (hk:c.op=10):r=doStat y c false∧y'=y:=by
 unfold Does at h
 iterate 9 rw [if_neg (by omega)] at h
 rw [if_pos hk] at h
 exact h
theorem is_11 {room:Nat} {y y':Sy} {c:Cal} {r:Res} (h:Does room y c r y') (hk:c.op=11):(r,y')=doMkdir y c:=by
 unfold Does at h
 iterate 10 rw [if_neg (by omega)] at h
 rw [if_pos hk] at h
 exact h
theorem is_12 {room:Nat} {y y':Sy} {c:Cal} {r:Res} (h:Does room y c r y') (hk:c.op=12):(r,y')=doRmdir y c:=by
 unfold Does at h
 iterate 11 rw [if_neg (by omega)] at h
 rw [if_pos hk] at h
 exact h
theorem is_13 {room:Nat} {y y':Sy} {c:Cal} {r:Res} (h:Does room y c r y') (hk:c.op=13):(r,y')=doUnlink y c:=by
 unfold Does at h
 iterate 12 rw [if_neg (by omega)] at h
 rw [if_pos hk] at h
 exact h
theorem is_14 {room:Nat} {y y':Sy} {c:Cal} {r:Res} (h:Does room y c r y') (hk:c.op=14):(r,y')=doLink y c:=by
 unfold Does at h
 iterate 13 rw [if_neg (by omega)] at h
 rw [if_pos hk] at h
 exact h
theorem is_15 {room:Nat} {y y':Sy} {c:Cal} {r:Res} (h:Does room y c r y') (hk:c.op=15):(r,y')=doSymlink y c:=by
 unfold Does at h
 iterate 14 rw [if_neg (by omega)] at h
 rw [if_pos hk] at h
 exact h
theorem is_16 {room:Nat} {y y':Sy} {c:Cal} {r:Res} (h:Does room y c r y') (hk:c.op=16):r=doReadlink y c∧y'=y:=by
 unfold Does at h
 iterate 15 rw [if_neg (by omega)] at h
 rw [if_pos hk] at h
 exact h
theorem is_17 {room:Nat} {y y':Sy} {c:Cal} {r:Res} (h:Does room y c r y') (hk:c.op=17):(r,y')=doRename y c:=by
 unfold Does at h
 iterate 16 rw [if_neg (by omega)] at h
 rw [if_pos hk] at h
 exact h
theorem is_18 {room:Nat} {y y':Sy} {c:Cal} {r:Res} (h:Does room y c r y') (hk:c.op=18):(r,y')=doOpendir y c:=by
 unfold Does at h
 iterate 17 rw [if_neg (by omega)] at h
 rw [if_pos hk] at h
 exact h
theorem is_19 {room:Nat} {y y':Sy} {c:Cal} {r:Res} (h:Does room y c r y') (hk:c.op=19):(r,y')=doReaddir y c:=by
 unfold Does at h
 iterate 18 rw [if_neg (by omega)] at h
 rw [if_pos hk] at h
 exact h
theorem is_20 {room:Nat} {y y':Sy} {c:Cal} {r:Res} (h:Does room y c r y') (hk:c.op=20):(r,y')=doRewind y c:=by
 unfold Does at h
 iterate 19 rw [if_neg (by omega)] at h
 rw [if_pos hk] at h
 exact h
theorem is_no {room:Nat} {y y':Sy} {c:Cal} {r:Res} (h:Does room y c r y') (hk:c.op<1∨20<c.op):r=wrong 22∧y'=y:=by
 unfold Does at h
 iterate 20 rw [if_neg (by omega)] at h
 exact h
theorem place_of {S:BS} {t:ByteArray} {busy:Int} (f:Nat) (R:wk.Rs) (h0:pe t=0) (h1:¬ (pn t=[]∨placeN t=dot1∨placeN t=dot2)) (hw:walkF (trS S) true f 40 1 (pn t).dropLast true=some R) (h2:R.2=0) (h3:S.kindOf R.1.2.2=2):placeE S t busy=0∧placeD S t=R.1.2.2:=by
 have hu:upR S t=R:=walkF_eq f _ _ _ _ hw
 unfold placeE placeD
 rw [if_neg (fun e=>e h0),if_neg h1,hu,if_neg (fun e=>e h2),if_neg (fun e=>e h3)]
 exact ⟨rfl,rfl⟩
theorem lead_of {S:BS} {s:ByteArray} {fol:Bool} {R:wk.Rs} (f:Nat) (h:pe s=0) (k:walkF (trS S) fol f 40 1 (pn s) (pd s)=some R):lead S s fol=R:=by
 unfold lead;rw [if_neg (fun e=>e h)];exact walkF_eq f _ _ _ _ k
theorem hd_fresh (room:Nat):Hd room ⟨fresh,em⟩ :=
 ⟨br.Good.fresh room,fun k d _ h=>(by cases h),fun I h1 h2=>by
  have e:cnI em I 32=0:=by unfold cnI em;exact List.countP_eq_zero.2 fun k _ h=>by cases h
  show (fresh.ino I).holds=((cnI em I 32:Nat):Int)
  rw [e]
  show (br.upd (fun _=>Ino.nil) 1 _ I).holds=0
  unfold br.upd
  split <;> rfl,fun k=>by
  show (br.upd (fun _=>Ino.nil) 1 _ k).kind≠4
  unfold br.upd
  split
  ·show (2:Int)≠4;decide
  ·show (0:Int)≠4;decide⟩
abbrev zA:ByteArray:=⟨#[97]⟩
abbrev zF:ByteArray:=⟨#[97,47,102]⟩
abbrev zf:ByteArray:=⟨#[102]⟩
abbrev zH:ByteArray:=⟨#[104,105]⟩
abbrev zE:ByteArray:=⟨#[]⟩
def W1:BS:=(fresh.make 1 zA 2 e0).2
def W2:BS:=(W1.make 2 zf 1 e0).2
def W3:BS:=(W2.hold 3).2
def W4:BS:=W3.wrote 3 0 2 (fun j=>zH.data[j]?.getD 0)
def W5:BS:=(W4.unlink 2 zf).2
def W6:BS:=(W5.rmdir 1 zA).2
def W7:BS:=(W6.release 3).2
def D0:De:=⟨3,7,0,false,[],0⟩
def D1:De:=⟨3,7,2,false,[],0⟩
def Q1:Tb:=put em 0 (some D0)
def Q2:Tb:=put Q1 0 (some D1)
def Q3:Tb:=put Q2 0 none
def c1:Cal:=⟨11,0,0,0,0,zA,zE⟩
def c2:Cal:=⟨1,0,7,0,0,zF,zE⟩
def c3:Cal:=⟨4,0,0,0,0,zH,zE⟩
def c4:Cal:=⟨5,0,0,9,1,zE,zE⟩
def c5:Cal:=⟨13,0,0,0,0,zF,zE⟩
def c6:Cal:=⟨12,0,0,0,0,zA,zE⟩
def c7:Cal:=⟨9,0,0,0,0,zA,zE⟩
def c8:Cal:=⟨2,0,0,0,0,zE,zE⟩
def c9:Cal:=⟨0,0,0,0,0,zE,zE⟩
instance (b:AB) (used room s q:Nat):Decidable (okW b used room s q):=by unfold okW;infer_instance
variable {y':Sy} {r:Res}
theorem r1 (h:Does 100 ⟨fresh,em⟩ c1 r y'):r=wrong 0∧y'=⟨W1,em⟩:=by
 have h:=is_11 h rfl
 obtain ⟨p1,p2⟩:=place_of (S:=fresh) (t:=zA) (busy:=17) 9 ((1,e0,1),0) (by decide +kernel) (by decide +kernel) (by decide +kernel) rfl (by decide +kernel)
 unfold doMkdir c1 at h
 dsimp only at h
 rw [if_neg (fun e=>e p1),p2] at h
 have hn:placeN zA=zA:=by decide +kernel
 have hm:fresh.make 1 zA 2 e0=((2,0),W1):=Prod.ext (by decide +kernel) rfl
 rw [hn] at h
 dsimp only at h
 rw [hm] at h
 injection h with h1 h2
 exact ⟨h1,h2⟩
theorem r2 (h:Does 100 ⟨W1,em⟩ c2 r y'):r=⟨0,0,e0,(0,0,0)⟩∧y'=⟨W3,Q1⟩:=by
 have h:=is_1 h rfl
 have hl:lead W1 zF true=((2,zf,0),2):=lead_of 9 (by decide +kernel) (by decide +kernel)
 have hm:W1.make 2 zf 1 e0=((3,0),W2):=Prod.ext (by decide +kernel) rfl
 unfold doOpen c2 at h
 dsimp only at h
 rw [if_neg (by decide),if_neg (by decide +kernel),show (!(bit 7 2 && bit 7 3))=true from by decide,hl] at h
 rw [if_pos (by decide +kernel),if_neg (by decide +kernel)] at h
 dsimp only at h
 rw [hm] at h
 dsimp only at h
 rw [if_neg (by decide)] at h
 unfold openIno at h
 dsimp only at h
 rw [if_neg (by decide +kernel),if_neg (by decide +kernel),if_neg (by decide)] at h
 unfold opened at h
 injection h with h1 h2
 exact ⟨h1,h2⟩
theorem g1:fileD Q1 0 (some 1)=(D0,0):=by
 unfold fileD
 have hg:getV Q1 0=(D0,0):=rfl
 rw [hg,if_neg]
 rintro (e|e|⟨j,e1,e2⟩)
 ·exact e rfl
 ·cases e
 ·injection e1 with e1;subst e1;revert e2;decide
theorem r3 (h:Does 100 ⟨W3,Q1⟩ c3 r y'):r=⟨0,2,e0,(0,0,0)⟩∧y'=⟨W4,Q2⟩:=by
 have h:=is_4 h rfl
 unfold DoWrite at h
 dsimp only [c3] at h
 rw [g1,if_neg (fun e=>e rfl)] at h
 obtain ⟨q,e,S',hw,h1,h2⟩:=h
 have hat:writeAt ⟨W3,Q1⟩ ⟨4,0,0,0,0,zH,zE⟩ false D0=0:=by unfold writeAt;rw [if_neg (by decide),if_neg (by decide)];rfl
 have hat':writeAt ⟨W3,Q1⟩ c3 false D0=0:=hat
 dsimp only at hw
 rw [hat] at hw
 have hf3:W3.fileE 3=0:=by decide +kernel
 have hs:IsStop (W3.at 3).body W3.used 100 0 2 2:=by
  have e1:W3.used=0:=by decide +kernel
  rw [e1]
  exact ⟨by decide,by decide +kernel,Or.inl rfl⟩
 rcases hw with ⟨h3,_⟩|⟨_,h4,_,_,rfl⟩
 ·exact absurd hf3 h3
 ·have h5:q=2∧e=0:=by
   rcases h4 with ⟨h,_⟩|⟨_,h,_⟩|⟨h,_⟩|⟨_,_,_,h,he⟩
   ·exact absurd h (by decide)
   ·exact absurd h (by decide)
   ·exact absurd h (by decide)
   ·have h6:=h.eq hs
    subst h6
    exact ⟨rfl,he⟩
  obtain ⟨rfl,rfl⟩:=h5
  obtain ⟨h7,h8⟩:=h2 rfl
  refine ⟨h7,h8.trans ?_⟩
  dsimp only
  rw [if_neg (by decide),hat]
  rfl
theorem g2:fileD Q2 0 (some 0)=(D1,0):=by
 unfold fileD
 have hg:getV Q2 0=(D1,0):=rfl
 rw [hg,if_neg]
 rintro (e|e|⟨j,e1,e2⟩)
 ·exact e rfl
 ·cases e
 ·injection e1 with e1;subst e1;revert e2;decide
theorem r4 (h:Does 100 ⟨W4,Q2⟩ c4 r y'):r=⟨0,1,⟨#[105]⟩,(0,0,0)⟩∧y'=⟨W4,Q2⟩:=by
 have h:=is_5 h rfl
 have hq:readI W4 3 1 9=(0,1):=by decide +kernel
 unfold doRead c4 at h
 dsimp only at h
 rw [g2,if_neg (fun e=>e rfl),if_neg (by decide)] at h
 have h:(r,y')=if (readI W4 3 1 9).1≠0 then (wrong (readI W4 3 1 9).1,⟨W4,Q2⟩) else (⟨0,((readI W4 3 1 9).2:Int),⟨(List.ofFn (n:=(readI W4 3 1 9).2) fun j=>(W4.at 3).body.dat ((1:Int).toNat+j)).toArray⟩,(0,0,0)⟩,⟨W4,Q2⟩):=h
 generalize readI W4 3 1 9=q at h hq
 subst hq
 rw [if_neg (by decide)] at h
 injection h with h1 h2
 refine ⟨h1.trans ?_,h2⟩
 have hb:(W4.at 3).body.dat ((1:Int).toNat+0)=105:=by decide +kernel
 show (⟨0,1,⟨(List.ofFn (n:=1) fun j=>(W4.at 3).body.dat ((1:Int).toNat+j)).toArray⟩,(0,0,0)⟩:Res)=_
 rw [List.ofFn_succ,List.ofFn_zero]
 show (⟨0,1,⟨[(W4.at 3).body.dat ((1:Int).toNat+0)].toArray⟩,(0,0,0)⟩:Res)=_
 rw [hb]
theorem r5 (h:Does 100 ⟨W4,Q2⟩ c5 r y'):r=wrong 0∧y'=⟨W5,Q2⟩:=by
 have h:=is_13 h rfl
 obtain ⟨p1,p2⟩:=place_of (S:=W4) (t:=zF) (busy:=21) 9 ((1,zA,2),0) (by decide +kernel) (by decide +kernel) (by decide +kernel) rfl (by decide +kernel)
 have hn:placeN zF=zf:=by decide +kernel
 unfold doUnlink c5 at h
 dsimp only at h
 rw [if_neg (fun e=>e p1),p2,hn] at h
 dsimp only at h
 rw [if_neg (fun e=>absurd e.1 (by decide +kernel))] at h
 have hm:W4.unlink 2 zf=(0,W5):=Prod.ext (by decide +kernel) rfl
 rw [hm] at h
 injection h with h1 h2
 exact ⟨h1,h2⟩
theorem r6 (h:Does 100 ⟨W5,Q2⟩ c6 r y'):r=wrong 0∧y'=⟨W6,Q2⟩:=by
 have h:=is_12 h rfl
 obtain ⟨p1,p2⟩:=place_of (S:=W5) (t:=zA) (busy:=16) 9 ((1,e0,1),0) (by decide +kernel) (by decide +kernel) (by decide +kernel) rfl (by decide +kernel)
 have hn:placeN zA=zA:=by decide +kernel
 unfold doRmdir c6 at h
 dsimp only at h
 rw [if_neg (fun e=>e p1),p2,hn] at h
 have hm:W5.rmdir 1 zA=(0,W6):=Prod.ext (by decide +kernel) rfl
 dsimp only at h
 rw [hm] at h
 injection h with h1 h2
 exact ⟨h1,h2⟩
theorem r7 (h:Does 100 ⟨W6,Q2⟩ c7 r y'):r=wrong 2∧y'=⟨W6,Q2⟩:=by
 have h:=is_9 h rfl
 have hl:lead W6 zA true=((1,zA,0),2):=lead_of 9 (by decide +kernel) (by decide +kernel)
 refine ⟨h.1.trans ?_,h.2⟩
 unfold doStat c7
 dsimp only
 rw [hl,if_pos (by decide)]
theorem r8 (h:Does 100 ⟨W6,Q2⟩ c8 r y'):r=wrong 0∧y'=⟨W7,Q3⟩:=by
 have h:=is_2 h rfl
 have hg:getV Q2 0=(D1,0):=rfl
 unfold doClose c8 at h
 dsimp only at h
 rw [hg,if_neg (fun e=>e rfl)] at h
 injection h with h1 h2
 exact ⟨h1,h2⟩
theorem r9 (h:Does 100 ⟨W7,Q3⟩ c9 r y'):r=wrong 22∧y'=⟨W7,Q3⟩:=is_no h (.inl (by decide))
theorem n7:W7.count 200=1:=by decide +kernel
theorem a7:(allT Q2 32).length=1:=by decide +kernel
end Go.Proofs.YtpmpbmjjlccbbaaGreat.tr
namespace Go.Proofs.YtpmpbmjjlccbbaaGreat.tr
open Go.RowKit
open br (BS Inv Ino fresh)
open cb (BrX RetW RetI)
open bl (Pq)
open wk (walkT pe pn pd e0 r0 dot1 dot2)
open ds (em De Tb DA DV DL GetE StE IntsE lowV openT getV errV setT closeT full allT dz)
open pa (Bs Sv Strs Own own_form info9 own_base)
theorem ran {w0 w:World} {P B Q room T:Nat} {X:Nat→Prop} {y y2:Sy} {c:Cal} {r2:Res} (h:SyX w0 w P B Q X y room T) (hT:T≤990) (hh:Hd room y) (hl:Lim y.T) (ha:c.a.size≤4096) (hb:c.b.size≤4096) (hr:∀ r y',Does room y c r y'→r=r2∧y'=y2) (v:Value) (hv:v=RVr r2) (a:Value) (hc:a=CV c) :
  Calls Tryz.prog 17 #[Pq P,a] w (fun e w'=>e=.returned v∧(SyX w0 w' P B Q X y2 room (T+3)∧Keeps X w w')∧Hd room y2∧Lim y2.T):=by
 subst hv;subst hc
 refine (Do_any h hT hh hl c ha hb).mono ?_
 rintro _ w' ⟨r,y',rfl,hd,h1,h2⟩
 obtain ⟨rfl,rfl⟩:=hr r y' hd
 exact ⟨rfl,⟨h1,h2⟩,does_held hh hd,does_lim hh hl hd⟩
theorem d1 {w0 w:World} {P B Q T:Nat} {X:Nat→Prop} {y:Sy} (h:SyX w0 w P B Q X y 100 T) (hT:T≤990) (hh:Hd 100 y) (hl:Lim y.T) (hy:y=⟨fresh,em⟩) :
  Calls Tryz.prog 17 #[Pq P,.agg #[.int .i64 11,.int .i64 0,.int .i64 0,.int .i64 0,.int .i64 0,.string ⟨#[97]⟩,.string ⟨#[]⟩]] w (fun e w'=>e=.returned (.agg #[.int .i64 0,.int .i64 0,.string ⟨#[]⟩,.int .i64 0,.int .i64 0,.int .i64 0])∧(SyX w0 w' P B Q X ⟨W1,em⟩ 100 (T+3)∧Keeps X w w')∧Hd 100 ⟨W1,em⟩∧Lim (⟨W1,em⟩:Sy).T):=by
 subst hy
 exact ran (c:=c1) h hT hh hl (by decide) (by decide) (fun r y'=>r1) _ rfl _ rfl
theorem d2 {w0 w:World} {P B Q T:Nat} {X:Nat→Prop} {y:Sy} (h:SyX w0 w P B Q X y 100 T) (hT:T≤990) (hh:Hd 100 y) (hl:Lim y.T) (hy:y=⟨W1,em⟩) :
  Calls Tryz.prog 17 #[Pq P,.agg #[.int .i64 1,.int .i64 0,.int .i64 7,.int .i64 0,.int .i64 0,.string ⟨#[97,47,102]⟩,.string ⟨#[]⟩]] w (fun e w'=>e=.returned (.agg #[.int .i64 0,.int .i64 0,.string ⟨#[]⟩,.int .i64 0,.int .i64 0,.int .i64 0])∧(SyX w0 w' P B Q X ⟨W3,Q1⟩ 100 (T+3)∧Keeps X w w')∧Hd 100 ⟨W3,Q1⟩∧Lim (⟨W3,Q1⟩:Sy).T):=by
 subst hy
 exact ran (c:=c2) h hT hh hl (by decide) (by decide) (fun r y'=>r2) _ rfl _ rfl
theorem d3 {w0 w:World} {P B Q T:Nat} {X:Nat→Prop} {y:Sy} (h:SyX w0 w P B Q X y 100 T) (hT:T≤990) (hh:Hd 100 y) (hl:Lim y.T) (hy:y=⟨W3,Q1⟩) :
  Calls Tryz.prog 17 #[Pq P,.agg #[.int .i64 4,.int .i64 0,.int .i64 0,.int .i64 0,.int .i64 0,.string ⟨#[104,105]⟩,.string ⟨#[]⟩]] w (fun e w'=>e=.returned (.agg #[.int .i64 0,.int .i64 2,.string ⟨#[]⟩,.int .i64 0,.int .i64 0,.int .i64 0])∧(SyX w0 w' P B Q X ⟨W4,Q2⟩ 100 (T+3)∧Keeps X w w')∧Hd 100 ⟨W4,Q2⟩∧Lim (⟨W4,Q2⟩:Sy).T):=by
 subst hy
 exact ran (c:=c3) h hT hh hl (by decide) (by decide) (fun r y'=>r3) _ rfl _ rfl
theorem d4 {w0 w:World} {P B Q T:Nat} {X:Nat→Prop} {y:Sy} (h:SyX w0 w P B Q X y 100 T) (hT:T≤990) (hh:Hd 100 y) (hl:Lim y.T) (hy:y=⟨W4,Q2⟩) :
  Calls Tryz.prog 17 #[Pq P,.agg #[.int .i64 5,.int .i64 0,.int .i64 0,.int .i64 9,.int .i64 1,.string ⟨#[]⟩,.string ⟨#[]⟩]] w (fun e w'=>e=.returned (.agg #[.int .i64 0,.int .i64 1,.string ⟨#[105]⟩,.int .i64 0,.int .i64 0,.int .i64 0])∧(SyX w0 w' P B Q X ⟨W4,Q2⟩ 100 (T+3)∧Keeps X w w')∧Hd 100 ⟨W4,Q2⟩∧Lim (⟨W4,Q2⟩:Sy).T):=by
 subst hy
 exact ran (c:=c4) h hT hh hl (by decide) (by decide) (fun r y'=>r4) _ rfl _ rfl
theorem d5 {w0 w:World} {P B Q T:Nat} {X:Nat→Prop} {y:Sy} (h:SyX w0 w P B Q X y 100 T) (hT:T≤990) (hh:Hd 100 y) (hl:Lim y.T) (hy:y=⟨W4,Q2⟩) :
  Calls Tryz.prog 17 #[Pq P,.agg #[.int .i64 13,.int .i64 0,.int .i64 0,.int .i64 0,.int .i64 0,.string ⟨#[97,47,102]⟩,.string ⟨#[]⟩]] w (fun e w'=>e=.returned (.agg #[.int .i64 0,.int .i64 0,.string ⟨#[]⟩,.int .i64 0,.int .i64 0,.int .i64 0])∧(SyX w0 w' P B Q X ⟨W5,Q2⟩ 100 (T+3)∧Keeps X w w')∧Hd 100 ⟨W5,Q2⟩∧Lim (⟨W5,Q2⟩:Sy).T):=by
 subst hy
 exact ran (c:=c5) h hT hh hl (by decide) (by decide) (fun r y'=>r5) _ rfl _ rfl
theorem d6 {w0 w:World} {P B Q T:Nat} {X:Nat→Prop} {y:Sy} (h:SyX w0 w P B Q X y 100 T) (hT:T≤990) (hh:Hd 100 y) (hl:Lim y.T) (hy:y=⟨W5,Q2⟩) :
  Calls Tryz.prog 17 #[Pq P,.agg #[.int .i64 12,.int .i64 0,.int .i64 0,.int .i64 0,.int .i64 0,.string ⟨#[97]⟩,.string ⟨#[]⟩]] w (fun e w'=>e=.returned (.agg #[.int .i64 0,.int .i64 0,.string ⟨#[]⟩,.int .i64 0,.int .i64 0,.int .i64 0])∧(SyX w0 w' P B Q X ⟨W6,Q2⟩ 100 (T+3)∧Keeps X w w')∧Hd 100 ⟨W6,Q2⟩∧Lim (⟨W6,Q2⟩:Sy).T):=by
 subst hy
 exact ran (c:=c6) h hT hh hl (by decide) (by decide) (fun r y'=>r6) _ rfl _ rfl
theorem d7 {w0 w:World} {P B Q T:Nat} {X:Nat→Prop} {y:Sy} (h:SyX w0 w P B Q X y 100 T) (hT:T≤990) (hh:Hd 100 y) (hl:Lim y.T) (hy:y=⟨W6,Q2⟩) :
  Calls Tryz.prog 17 #[Pq P,.agg #[.int .i64 9,.int .i64 0,.int .i64 0,.int .i64 0,.int .i64 0,.string ⟨#[97]⟩,.string ⟨#[]⟩]] w (fun e w'=>e=.returned (.agg #[.int .i64 2,.int .i64 0,.string ⟨#[]⟩,.int .i64 0,.int .i64 0,.int .i64 0])∧(SyX w0 w' P B Q X ⟨W6,Q2⟩ 100 (T+3)∧Keeps X w w')∧Hd 100 ⟨W6,Q2⟩∧Lim (⟨W6,Q2⟩:Sy).T):=by
 subst hy
 exact ran (c:=c7) h hT hh hl (by decide) (by decide) (fun r y'=>r7) _ rfl _ rfl
theorem d8 {w0 w:World} {P B Q T:Nat} {X:Nat→Prop} {y:Sy} (h:SyX w0 w P B Q X y 100 T) (hT:T≤990) (hh:Hd 100 y) (hl:Lim y.T) (hy:y=⟨W6,Q2⟩) :
  Calls Tryz.prog 17 #[Pq P,.agg #[.int .i64 2,.int .i64 0,.int .i64 0,.int .i64 0,.int .i64 0,.string ⟨#[]⟩,.string ⟨#[]⟩]] w (fun e w'=>e=.returned (.agg #[.int .i64 0,.int .i64 0,.string ⟨#[]⟩,.int .i64 0,.int .i64 0,.int .i64 0])∧(SyX w0 w' P B Q X ⟨W7,Q3⟩ 100 (T+3)∧Keeps X w w')∧Hd 100 ⟨W7,Q3⟩∧Lim (⟨W7,Q3⟩:Sy).T):=by
 subst hy
 exact ran (c:=c8) h hT hh hl (by decide) (by decide) (fun r y'=>r8) _ rfl _ rfl
theorem d9 {w0 w:World} {P B Q T:Nat} {X:Nat→Prop} {y:Sy} (h:SyX w0 w P B Q X y 100 T) (hT:T≤990) (hh:Hd 100 y) (hl:Lim y.T) (hy:y=⟨W7,Q3⟩) :
  Calls Tryz.prog 17 #[Pq P,.agg #[.int .i64 0,.int .i64 0,.int .i64 0,.int .i64 0,.int .i64 0,.string ⟨#[]⟩,.string ⟨#[]⟩]] w (fun e w'=>e=.returned (.agg #[.int .i64 22,.int .i64 0,.string ⟨#[]⟩,.int .i64 0,.int .i64 0,.int .i64 0])∧(SyX w0 w' P B Q X ⟨W7,Q3⟩ 100 (T+3)∧Keeps X w w')∧Hd 100 ⟨W7,Q3⟩∧Lim (⟨W7,Q3⟩:Sy).T):=by
 subst hy
 exact ran (c:=c9) h hT hh hl (by decide) (by decide) (fun r y'=>r9) _ rfl _ rfl
theorem field_e (e n:Int) (s:ByteArray) (a b c:Int) (W:World):(Instr.field 39 (.agg #[.int .i64 e,.int .i64 n,.string s,.int .i64 a,.int .i64 b,.int .i64 c]) 0).run Tryz.prog W=.ok (.int .i64 e) W:=by
 first|rfl|kernel_rfl
theorem field_n (e n:Int) (s:ByteArray) (a b c:Int) (W:World):(Instr.field 39 (.agg #[.int .i64 e,.int .i64 n,.string s,.int .i64 a,.int .i64 b,.int .i64 c]) 1).run Tryz.prog W=.ok (.int .i64 n) W:=by
 first|rfl|kernel_rfl
theorem field_s (e n:Int) (s:ByteArray) (a b c:Int) (W:World):(Instr.field 39 (.agg #[.int .i64 e,.int .i64 n,.string s,.int .i64 a,.int .i64 b,.int .i64 c]) 2).run Tryz.prog W=.ok (.string s) W:=by
 first|rfl|kernel_rfl
theorem field_t (e n:Int) (s:ByteArray) (a b c:Int) (W:World):(Instr.field 39 (.agg #[.int .i64 e,.int .i64 n,.string s,.int .i64 a,.int .i64 b,.int .i64 c]) 3).run Tryz.prog W=.ok (.agg #[.int .i64 a,.int .i64 b,.int .i64 c]) W:=by
 first|rfl|kernel_rfl
theorem box_on {w0 w:World} {P B Q room T:Nat} {X:Nat→Prop} {y:Sy} (h:SyX w0 w P B Q X y room T) (v0 v1 v2 v3 v4 v5:Value):∃ W G,w.alloc (.cells #[v0,v1,v2,v3,v4,v5] 39)=W∧w.heap.size=G∧SyX w0 W P B Q (Ov X w W) y room T∧Rw W G [v0,v1,v2,v3,v4,v5]∧Ov X w W G∧(∀ b,X b→Ov X w W b∧W.heap[b]?=w.heap[b]?):=by
 have hb:=bel_alloc w (.cells #[v0,v1,v2,v3,v4,v5] 39)
 exact ⟨_,_,rfl,rfl,h.over hb,Rw.new w [v0,v1,v2,v3,v4,v5] 39,.inr ⟨Nat.le_refl _,by rw [World.size_alloc];exact Nat.lt_succ_self _⟩,fun b hX=>⟨.inl hX,hb.block b (h.lt hX)⟩⟩
end Go.Proofs.YtpmpbmjjlccbbaaGreat.tr
