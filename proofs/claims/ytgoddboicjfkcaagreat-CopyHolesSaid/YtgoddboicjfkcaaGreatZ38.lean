/- Part 38 of what is known of the program's functions and of the document's words: contracts, and the mathematics beneath them. -/
import Derived.Test.YtgoddboicjfkcaaGreatProg
import Derived.Test.YtgoddboicjfkcaaGreatZ37
set_option linter.unusedVariables false
set_option linter.unusedSimpArgs false
set_option maxRecDepth 100000
set_option maxHeartbeats 8000000
namespace Go.Proofs.YtgoddboicjfkcaaGreat.mg
open Go.RowKit Go.Deep
open br (BS Ino Inv fresh)
open cb (BrX RetW RetI No)
open bl (Pq)
structure G4 (w:World) (g:Nat) (D1 D2:Nat) (u l n1 n2:Int):Prop where
 v:R4 w g D1 D2 u l
 n:Nb w (g+1) (n1,n2)
 r:R2 w (g+2) 0 0
 z:Nb w (g+3) (0,0)
theorem G4.below {w w':World} {g D1 D2:Nat} {u l n1 n2:Int} (h:G4 w g D1 D2 u l n1 n2) (hb:Below w.heap.size w w'):G4 w' g D1 D2 u l n1 n2:=⟨h.v.below hb,h.n.below hb,h.r.below hb,h.z.below hb⟩
theorem G4.new (w:World) (D1 D2:Nat) (u l n1 n2:Int):G4 ((((w.alloc (.cells #[Pq D1,Pq D2,.int .i64 u,.int .i64 l] 36)).alloc (.cells #[.int .i64 n1,.int .i64 n2] 24)).alloc (.cells #[.int .i64 0,.int .i64 0] 24)).alloc (.cells #[.int .i64 0,.int .i64 0] 24)) w.heap.size D1 D2 u l n1 n2 where
 v:=(R4.new w D1 D2 u l).below (bel_step (bel_step (bel_alloc _ _) (bel_alloc _ _)) (bel_alloc _ _))
 n:=by have:=(Nb.new (w.alloc (.cells #[Pq D1,Pq D2,.int .i64 u,.int .i64 l] 36)) n1 n2).below (bel_step (bel_alloc ((w.alloc (.cells #[Pq D1,Pq D2,.int .i64 u,.int .i64 l] 36)).alloc (.cells #[.int .i64 n1,.int .i64 n2] 24)) (.cells #[.int .i64 0,.int .i64 0] 24)) (bel_alloc _ (.cells #[.int .i64 0,.int .i64 0] 24)));rwa [World.size_alloc] at this
 r:=by have:=(R2.new ((w.alloc (.cells #[Pq D1,Pq D2,.int .i64 u,.int .i64 l] 36)).alloc (.cells #[.int .i64 n1,.int .i64 n2] 24)) 0 0).below (bel_alloc _ (.cells #[.int .i64 0,.int .i64 0] 24));rwa [World.size_alloc,World.size_alloc] at this
 z:=by have:=Nb.new (((w.alloc (.cells #[Pq D1,Pq D2,.int .i64 u,.int .i64 l] 36)).alloc (.cells #[.int .i64 n1,.int .i64 n2] 24)).alloc (.cells #[.int .i64 0,.int .i64 0] 24)) 0 0;rwa [World.size_alloc,World.size_alloc,World.size_alloc] at this
theorem rget_any {w:World} {D1 D2:Nat} {u l:Int} {U L:BS} (h:Vd w D1 D2 U L) (n:Nd) (s:ByteArray):Calls Tryz.prog 18 #[Rv D1 D2 u l,Nv n,.string s] w (fun e w'=>e=.returned (.tuple #[Nv (getV U L n s).1,.int .i64 (getV U L n s).2])∧Below w.heap.size w w'):=by
 obtain ⟨n1,n2⟩:=n
 have HF:=Lib.hid (show ∀ w1,(((w.alloc (.cells #[Pq D1,Pq D2,.int .i64 u,.int .i64 l] 36)).alloc (.cells #[.int .i64 n1,.int .i64 n2] 24)).alloc (.cells #[.int .i64 0,.int .i64 0] 24)).alloc (.cells #[.int .i64 0,.int .i64 0] 24)=w1→Below w.heap.size w w1∧G4 w1 w.heap.size D1 D2 u l n1 n2 from fun w1 hw1=>by
  refine ⟨?_,?_⟩
  ·rw [← hw1];exact bel_step (bel_step (bel_step (bel_alloc _ _) (bel_alloc _ _)) (bel_alloc _ _)) (bel_alloc _ _)
  ·rw [← hw1];exact G4.new w D1 D2 u l n1 n2)
 have HK:=Lib.hid (fun W (hb:Below w.heap.size w W)=>rkind_any (u:=u) (l:=l) (h.below hb) (n1,n2))
 have HCN:=Lib.hid (fun W (hb:Below w.heap.size w W)=>rcounts_any (u:=u) (l:=l) (h.below hb) (n1,n2))
 have HOP:=Lib.hid (fun W x (hb:Below w.heap.size w W)=>ropq_any (u:=u) (l:=l) (h.below hb) x)
 have HK1:=Lib.hid (fun W x (hb:Below w.heap.size w W)=>(h.below hb).kind1 x)
 have HK2:=Lib.hid (fun W x (hb:Below w.heap.size w W)=>(h.below hb).kind2 x)
 have HG1:=Lib.hid (fun W (hb:Below w.heap.size w W)=>(h.below hb).get1 n1 s)
 have HG2:=Lib.hid (fun W (hb:Below w.heap.size w W)=>(h.below hb).get2 n2 s)
 unfold RetI at HK
 have HL:=Lib.hid (show lstV U L (n1,n2)=if kindV U L (n1,n2)=0 then 2 else if kindV U L (n1,n2)=2 then 0 else 20 from rfl)
 have HS:=Lib.hid (getV_lst (U:=U) (L:=L) (n:=(n1,n2)) (s:=s))
 obtain ⟨rU,iU⟩:=h.i1
 obtain ⟨rL,iL⟩:=h.i2
 have HDC:=Lib.hid (getV_doc iU iL (n1,n2) s)
 clear iU iL
 have HLO:=Lib.hid (show lowV U L (n1,n2) s=if cntV U (n1,n2)=true then (L.get n2 s).1 else 0 from rfl)
 have HUP:=Lib.hid (show upV U (n1,n2) s=if n1≠0 then (U.get n1 s).1 else 0 from rfl)
 have HCE:=Lib.hid (show cntV U (n1,n2)=(decide ((n1,n2).2≠0) && (decide ((n1,n2).1=0) || !opq U (n1,n2).1)) from rfl)
 rw [← HCE.out] at HCN
 clear HCE
 generalize lowV U L (n1,n2) s=low at *
 generalize upV U (n1,n2) s=x at *
 generalize cntV U (n1,n2)=cnt at *
 generalize getV U L (n1,n2) s=r at *
 generalize lstV U L (n1,n2)=le at *
 generalize kindV U L (n1,n2)=kv at *
 generalize U.get n1 s=gu at *
 generalize L.get n2 s=gl at *
 obtain ⟨gu1,gu2⟩:=gu
 obtain ⟨gl1,gl2⟩:=gl
 dsimp only at HG1 HG2 HLO HUP
 obtain ⟨g,hg⟩:∃ g,w.heap.size=g:=⟨_,rfl⟩
 have HGB:=Lib.hid hg
 rw [hg] at HF
 clear h
 go_enter Tryz.func18,Tryz.ntmps18
 go_upto_region 2 with fail
 generalize hw1:(((w.alloc (.cells #[Pq D1,Pq D2,.int .i64 u,.int .i64 l] 36)).alloc (.cells #[.int .i64 n1,.int .i64 n2] 24)).alloc (.cells #[.int .i64 0,.int .i64 0] 24)).alloc (.cells #[.int .i64 0,.int .i64 0] 24)=w1
 obtain ⟨hb1,hg1⟩:=HF.out w1 hw1
 have HB1:=Lib.hid (show Below w.heap.size w w1 by rw [hg];exact hb1)
 have HX1:=Lib.hid hg1
 clear hb1 hg1 HF hw1
 obtain ⟨⟨k0,k1,k2,k3⟩,⟨m0,m1⟩,⟨r0,r1,f0,f1⟩,⟨z0,z1⟩⟩:=HX1.out
 dsimp only at m0 m1 z0 z1
 go_wp2_with fail
 refine (HK.out _ HB1.out).mono ?_
 rintro _ w2 ⟨rfl,hb2⟩
 have HB2:=Lib.hid (bel_step HB1.out hb2)
 have HX2:=Lib.hid (HX1.out.below hb2)
 clear k0 k1 k2 k3 m0 m1 r0 r1 f0 f1 z0 z1
 clear hb2 HB1 HX1
 by_cases h0:kv=0
 case pos =>
  subst h0
  have hr:=HS.out (by rw [HL.out,if_pos (by first|rfl|trivial)];decide)
  rw [HL.out,if_pos (by first|rfl|trivial)] at hr
  clear HS HL HDC HLO HUP
  obtain ⟨⟨k0,k1,k2,k3⟩,⟨m0,m1⟩,⟨r0,r1,f0,f1⟩,⟨z0,z1⟩⟩:=HX2.out
  dsimp only at m0 m1 z0 z1
  have HRS:=Lib.hid (fun a b=>HX2.out.r.range a b)
  have HBS:=Lib.hid (fun a b=>set2_below HB2.out (show w.heap.size≤g+2 by have:=HGB.out;omega) a b)
  go_wp2_with fail
  refine bodyPost_ret (results_row_tmp rfl _ _ (g+2) _ _ rfl (HRS.out _ _) Tryz.underlying24 (by rfl) (by rfl)) rfl ?_
  exact ⟨by rw [hr];rfl,HBS.out _ _⟩
 have q0:(kv == 0)=false:=by simpa using h0
 obtain ⟨⟨k0,k1,k2,k3⟩,⟨m0,m1⟩,⟨r0,r1,f0,f1⟩,⟨z0,z1⟩⟩:=HX2.out
 dsimp only at m0 m1 z0 z1
 go_wp2_with fail
 refine (HK.out _ HB2.out).mono ?_
 rintro _ w3 ⟨rfl,hb3⟩
 have HB3:=Lib.hid (bel_step HB2.out hb3)
 have HX3:=Lib.hid (HX2.out.below hb3)
 clear k0 k1 k2 k3 m0 m1 r0 r1 f0 f1 z0 z1
 clear hb3 HB2 HX2
 by_cases h2:kv=2
 case neg =>
  have q2:(kv != 2)=true:=by simpa using h2
  have hr:=HS.out (by rw [HL.out,if_neg h0,if_neg h2];decide)
  rw [HL.out,if_neg h0,if_neg h2] at hr
  clear HS HL HDC HLO HUP h0 h2
  obtain ⟨⟨k0,k1,k2,k3⟩,⟨m0,m1⟩,⟨r0,r1,f0,f1⟩,⟨z0,z1⟩⟩:=HX3.out
  dsimp only at m0 m1 z0 z1
  have HRS:=Lib.hid (fun a b=>HX3.out.r.range a b)
  have HBS:=Lib.hid (fun a b=>set2_below HB3.out (show w.heap.size≤g+2 by have:=HGB.out;omega) a b)
  go_wp2_with fail
  refine bodyPost_ret (results_row_tmp rfl _ _ (g+2) _ _ rfl (HRS.out _ _) Tryz.underlying24 (by rfl) (by rfl)) rfl ?_
  exact ⟨by rw [hr];rfl,HBS.out _ _⟩
 have hdc:=HDC.out h2
 subst h2
 have HR:=Lib.hid hdc
 clear hdc HDC HS HL h0
 obtain ⟨⟨k0,k1,k2,k3⟩,⟨m0,m1⟩,⟨r0,r1,f0,f1⟩,⟨z0,z1⟩⟩:=HX3.out
 dsimp only at m0 m1 z0 z1
 go_wp2_with fail
 refine (HCN.out _ HB3.out).mono ?_
 rintro _ w4 ⟨rfl,hb4⟩
 have HB4:=Lib.hid (bel_step HB3.out hb4)
 have HX4:=Lib.hid (HX3.out.below hb4)
 clear k0 k1 k2 k3 m0 m1 r0 r1 f0 f1 z0 z1
 clear hb4 HB3 HX3
 cases cnt with
 | true =>
  have hl:=HLO.out
  rw [if_pos (by first|rfl|trivial)] at hl
  subst hl
  clear HLO
  obtain ⟨⟨k0,k1,k2,k3⟩,⟨m0,m1⟩,⟨r0,r1,f0,f1⟩,⟨z0,z1⟩⟩:=HX4.out
  dsimp only at m0 m1 z0 z1
  go_wp2_with fail
  refine (HG2.out _ HB4.out).mono ?_
  rintro _ w5 ⟨rfl,hb5⟩
  have HB5:=Lib.hid (bel_step HB4.out hb5)
  have HX5:=Lib.hid (HX4.out.below hb5)
  clear k0 k1 k2 k3 m0 m1 r0 r1 f0 f1 z0 z1
  clear hb5 HB4 HX4
  clear HCN HK HG2
  by_cases hn:n1=0
  ·subst hn
   have hx:x=0:=by rw [HUP.out];simp
   subst hx
   clear HUP HG1
   have hr:=HR.out
   rw [if_neg (by simp)] at hr
   clear HR
   by_cases hl0:low=0
   ·rw [if_pos (.inl hl0)] at hr
    subst hl0
    obtain ⟨⟨k0,k1,k2,k3⟩,⟨m0,m1⟩,⟨r0,r1,f0,f1⟩,⟨z0,z1⟩⟩:=HX5.out
    dsimp only at m0 m1 z0 z1
    have HRS:=Lib.hid (fun a b=>HX5.out.r.range a b)
    have HBS:=Lib.hid (fun a b=>set2_below HB5.out (show w.heap.size≤g+2 by have:=HGB.out;omega) a b)
    go_wp2_with fail
    refine bodyPost_ret (results_row_tmp rfl _ _ (g+2) _ _ rfl (HRS.out _ _) Tryz.underlying24 (by rfl) (by rfl)) rfl ?_
    exact ⟨by rw [hr];rfl,HBS.out _ _⟩
   have ql0:(low == 0)=false:=by simpa using hl0
   have HKL:=Lib.hid (fun W (hb:Below w.heap.size w W)=>HK2.out W low hb)
   clear HK2
   generalize L.kindOf low=kl at *
   obtain ⟨⟨k0,k1,k2,k3⟩,⟨m0,m1⟩,⟨r0,r1,f0,f1⟩,⟨z0,z1⟩⟩:=HX5.out
   dsimp only at m0 m1 z0 z1
   go_wp2_with fail
   refine (HKL.out _ HB5.out).mono ?_
   rintro _ w6 ⟨rfl,hb6⟩
   have HB6:=Lib.hid (bel_step HB5.out hb6)
   have HX6:=Lib.hid (HX5.out.below hb6)
   clear k0 k1 k2 k3 m0 m1 r0 r1 f0 f1 z0 z1
   clear hb6 HB5 HX5
   by_cases h4:kl=4
   ·rw [if_pos (.inr h4)] at hr
    subst h4
    clear hl0
    obtain ⟨⟨k0,k1,k2,k3⟩,⟨m0,m1⟩,⟨r0,r1,f0,f1⟩,⟨z0,z1⟩⟩:=HX6.out
    dsimp only at m0 m1 z0 z1
    have HRS:=Lib.hid (fun a b=>HX6.out.r.range a b)
    have HBS:=Lib.hid (fun a b=>set2_below HB6.out (show w.heap.size≤g+2 by have:=HGB.out;omega) a b)
    go_wp2_with fail
    refine bodyPost_ret (results_row_tmp rfl _ _ (g+2) _ _ rfl (HRS.out _ _) Tryz.underlying24 (by rfl) (by rfl)) rfl ?_
    exact ⟨by rw [hr];rfl,HBS.out _ _⟩
   have q4:(kl == 4)=false:=by simpa using h4
   rw [if_neg (fun e=>e.elim hl0 h4)] at hr
   clear h4 hl0
   obtain ⟨⟨k0,k1,k2,k3⟩,⟨m0,m1⟩,⟨r0,r1,f0,f1⟩,⟨z0,z1⟩⟩:=HX6.out
   dsimp only at m0 m1 z0 z1
   have HRS:=Lib.hid (fun a b=>HX6.out.r.range a b)
   have HBS:=Lib.hid (fun a b=>set2_below HB6.out (show w.heap.size≤g+2 by have:=HGB.out;omega) a b)
   go_wp2_with fail
   refine bodyPost_ret (results_row_tmp rfl _ _ (g+2) _ _ rfl (HRS.out _ _) Tryz.underlying24 (by rfl) (by rfl)) rfl ?_
   exact ⟨by rw [hr];rfl,HBS.out _ _⟩
  have qn:(n1 != 0)=true:=by simpa using hn
  have hx:x=gu1:=by rw [HUP.out,if_pos hn]
  subst hx
  clear HUP hn
  obtain ⟨⟨k0,k1,k2,k3⟩,⟨m0,m1⟩,⟨r0,r1,f0,f1⟩,⟨z0,z1⟩⟩:=HX5.out
  dsimp only at m0 m1 z0 z1
  go_wp2_with fail
  refine (HG1.out _ HB5.out).mono ?_
  rintro _ w6 ⟨rfl,hb6⟩
  have HB6:=Lib.hid (bel_step HB5.out hb6)
  have HX6:=Lib.hid (HX5.out.below hb6)
  clear k0 k1 k2 k3 m0 m1 r0 r1 f0 f1 z0 z1
  clear hb6 HB5 HX5
  clear HG1
  by_cases hx0:x=0
  ·subst hx0
   have hr:=HR.out
   rw [if_neg (by simp)] at hr
   clear HR
   by_cases hl0:low=0
   ·rw [if_pos (.inl hl0)] at hr
    subst hl0
    obtain ⟨⟨k0,k1,k2,k3⟩,⟨m0,m1⟩,⟨r0,r1,f0,f1⟩,⟨z0,z1⟩⟩:=HX6.out
    dsimp only at m0 m1 z0 z1
    have HRS:=Lib.hid (fun a b=>HX6.out.r.range a b)
    have HBS:=Lib.hid (fun a b=>set2_below HB6.out (show w.heap.size≤g+2 by have:=HGB.out;omega) a b)
    go_wp2_with fail
    refine bodyPost_ret (results_row_tmp rfl _ _ (g+2) _ _ rfl (HRS.out _ _) Tryz.underlying24 (by rfl) (by rfl)) rfl ?_
    exact ⟨by rw [hr];rfl,HBS.out _ _⟩
   have ql0:(low == 0)=false:=by simpa using hl0
   have HKL:=Lib.hid (fun W (hb:Below w.heap.size w W)=>HK2.out W low hb)
   clear HK2
   generalize L.kindOf low=kl at *
   obtain ⟨⟨k0,k1,k2,k3⟩,⟨m0,m1⟩,⟨r0,r1,f0,f1⟩,⟨z0,z1⟩⟩:=HX6.out
   dsimp only at m0 m1 z0 z1
   go_wp2_with fail
   refine (HKL.out _ HB6.out).mono ?_
   rintro _ w7 ⟨rfl,hb7⟩
   have HB7:=Lib.hid (bel_step HB6.out hb7)
   have HX7:=Lib.hid (HX6.out.below hb7)
   clear k0 k1 k2 k3 m0 m1 r0 r1 f0 f1 z0 z1
   clear hb7 HB6 HX6
   by_cases h4:kl=4
   ·rw [if_pos (.inr h4)] at hr
    subst h4
    clear hl0
    obtain ⟨⟨k0,k1,k2,k3⟩,⟨m0,m1⟩,⟨r0,r1,f0,f1⟩,⟨z0,z1⟩⟩:=HX7.out
    dsimp only at m0 m1 z0 z1
    have HRS:=Lib.hid (fun a b=>HX7.out.r.range a b)
    have HBS:=Lib.hid (fun a b=>set2_below HB7.out (show w.heap.size≤g+2 by have:=HGB.out;omega) a b)
    go_wp2_with fail
    refine bodyPost_ret (results_row_tmp rfl _ _ (g+2) _ _ rfl (HRS.out _ _) Tryz.underlying24 (by rfl) (by rfl)) rfl ?_
    exact ⟨by rw [hr];rfl,HBS.out _ _⟩
   have q4:(kl == 4)=false:=by simpa using h4
   rw [if_neg (fun e=>e.elim hl0 h4)] at hr
   clear h4 hl0
   obtain ⟨⟨k0,k1,k2,k3⟩,⟨m0,m1⟩,⟨r0,r1,f0,f1⟩,⟨z0,z1⟩⟩:=HX7.out
   dsimp only at m0 m1 z0 z1
   have HRS:=Lib.hid (fun a b=>HX7.out.r.range a b)
   have HBS:=Lib.hid (fun a b=>set2_below HB7.out (show w.heap.size≤g+2 by have:=HGB.out;omega) a b)
   go_wp2_with fail
   refine bodyPost_ret (results_row_tmp rfl _ _ (g+2) _ _ rfl (HRS.out _ _) Tryz.underlying24 (by rfl) (by rfl)) rfl ?_
   exact ⟨by rw [hr];rfl,HBS.out _ _⟩
  have qx:(x != 0)=true:=by simpa using hx0
  have hr:=HR.out
  rw [if_pos hx0] at hr
  clear HR hx0
  have HKX:=Lib.hid (fun W (hb:Below w.heap.size w W)=>HK1.out W x hb)
  have HKL:=Lib.hid (fun W (hb:Below w.heap.size w W)=>HK2.out W low hb)
  have HOX:=Lib.hid (fun W (hb:Below w.heap.size w W)=>HOP.out W x hb)
  clear HK1 HK2 HOP
  generalize U.kindOf x=kx at *
  generalize L.kindOf low=kl at *
  generalize opq U x=ox at *
  obtain ⟨⟨k0,k1,k2,k3⟩,⟨m0,m1⟩,⟨r0,r1,f0,f1⟩,⟨z0,z1⟩⟩:=HX6.out
  dsimp only at m0 m1 z0 z1
  go_wp2_with fail
  refine (HKX.out _ HB6.out).mono ?_
  rintro _ w7 ⟨rfl,hb7⟩
  have HB7:=Lib.hid (bel_step HB6.out hb7)
  have HX7:=Lib.hid (HX6.out.below hb7)
  clear k0 k1 k2 k3 m0 m1 r0 r1 f0 f1 z0 z1
  clear hb7 HB6 HX6
  by_cases h4:kx=4
  ·rw [if_pos h4] at hr
   subst h4
   obtain ⟨⟨k0,k1,k2,k3⟩,⟨m0,m1⟩,⟨r0,r1,f0,f1⟩,⟨z0,z1⟩⟩:=HX7.out
   dsimp only at m0 m1 z0 z1
   have HRS:=Lib.hid (fun a b=>HX7.out.r.range a b)
   have HBS:=Lib.hid (fun a b=>set2_below HB7.out (show w.heap.size≤g+2 by have:=HGB.out;omega) a b)
   go_wp2_with fail
   refine bodyPost_ret (results_row_tmp rfl _ _ (g+2) _ _ rfl (HRS.out _ _) Tryz.underlying24 (by rfl) (by rfl)) rfl ?_
   exact ⟨by rw [hr];rfl,HBS.out _ _⟩
  have q4:(kx == 4)=false:=by simpa using h4
  rw [if_neg h4] at hr
  clear h4
  obtain ⟨⟨k0,k1,k2,k3⟩,⟨m0,m1⟩,⟨r0,r1,f0,f1⟩,⟨z0,z1⟩⟩:=HX7.out
  dsimp only at m0 m1 z0 z1
  go_wp2_with fail
  refine (HKX.out _ HB7.out).mono ?_
  rintro _ w8 ⟨rfl,hb8⟩
  have HB8:=Lib.hid (bel_step HB7.out hb8)
  have HX8:=Lib.hid (HX7.out.below hb8)
  clear k0 k1 k2 k3 m0 m1 r0 r1 f0 f1 z0 z1
  clear hb8 HB7 HX7
  by_cases h2:kx=2
  ·subst h2
   clear q4
   obtain ⟨⟨k0,k1,k2,k3⟩,⟨m0,m1⟩,⟨r0,r1,f0,f1⟩,⟨z0,z1⟩⟩:=HX8.out
   dsimp only at m0 m1 z0 z1
   go_wp2_with fail
   refine (HOX.out _ HB8.out).mono ?_
   rintro _ w9 ⟨rfl,hb9⟩
   have HB9:=Lib.hid (bel_step HB8.out hb9)
   have HX9:=Lib.hid (HX8.out.below hb9)
   clear k0 k1 k2 k3 m0 m1 r0 r1 f0 f1 z0 z1
   clear hb9 HB8 HX8
   cases ox with
   | true =>
    rw [if_neg (fun e=>by cases e.2.1)] at hr
    obtain ⟨⟨k0,k1,k2,k3⟩,⟨m0,m1⟩,⟨r0,r1,f0,f1⟩,⟨z0,z1⟩⟩:=HX9.out
    dsimp only at m0 m1 z0 z1
    have HRS:=Lib.hid (fun a b=>HX9.out.r.range a b)
    have HBS:=Lib.hid (fun a b=>set2_below HB9.out (show w.heap.size≤g+2 by have:=HGB.out;omega) a b)
    go_wp2_with fail
    refine bodyPost_ret (results_row_tmp rfl _ _ (g+2) _ _ rfl (HRS.out _ _) Tryz.underlying24 (by rfl) (by rfl)) rfl ?_
    exact ⟨by rw [hr];rfl,HBS.out _ _⟩
   | false =>
    obtain ⟨⟨k0,k1,k2,k3⟩,⟨m0,m1⟩,⟨r0,r1,f0,f1⟩,⟨z0,z1⟩⟩:=HX9.out
    dsimp only at m0 m1 z0 z1
    go_wp2_with fail
    refine (HKL.out _ HB9.out).mono ?_
    rintro _ w10 ⟨rfl,hb10⟩
    have HB10:=Lib.hid (bel_step HB9.out hb10)
    have HX10:=Lib.hid (HX9.out.below hb10)
    clear k0 k1 k2 k3 m0 m1 r0 r1 f0 f1 z0 z1
    clear hb10 HB9 HX9
    by_cases hl:kl=2
    ·rw [if_pos ⟨by first|rfl|trivial,by first|rfl|trivial,hl⟩] at hr
     subst hl
     obtain ⟨⟨k0,k1,k2,k3⟩,⟨m0,m1⟩,⟨r0,r1,f0,f1⟩,⟨z0,z1⟩⟩:=HX10.out
     dsimp only at m0 m1 z0 z1
     have HRS:=Lib.hid (fun a b=>HX10.out.r.range a b)
     have HBS:=Lib.hid (fun a b=>set2_below HB10.out (show w.heap.size≤g+2 by have:=HGB.out;omega) a b)
     go_wp2_with fail
     refine bodyPost_ret (results_row_tmp rfl _ _ (g+2) _ _ rfl (HRS.out _ _) Tryz.underlying24 (by rfl) (by rfl)) rfl ?_
     exact ⟨by rw [hr];rfl,HBS.out _ _⟩
    have ql:(kl == 2)=false:=by simpa using hl
    rw [if_neg (fun e=>hl e.2.2)] at hr
    clear hl
    obtain ⟨⟨k0,k1,k2,k3⟩,⟨m0,m1⟩,⟨r0,r1,f0,f1⟩,⟨z0,z1⟩⟩:=HX10.out
    dsimp only at m0 m1 z0 z1
    have HRS:=Lib.hid (fun a b=>HX10.out.r.range a b)
    have HBS:=Lib.hid (fun a b=>set2_below HB10.out (show w.heap.size≤g+2 by have:=HGB.out;omega) a b)
    go_wp2_with fail
    refine bodyPost_ret (results_row_tmp rfl _ _ (g+2) _ _ rfl (HRS.out _ _) Tryz.underlying24 (by rfl) (by rfl)) rfl ?_
    exact ⟨by rw [hr];rfl,HBS.out _ _⟩
  have q2:(kx == 2)=false:=by simpa using h2
  rw [if_neg (fun e=>h2 e.1)] at hr
  clear h2
  obtain ⟨⟨k0,k1,k2,k3⟩,⟨m0,m1⟩,⟨r0,r1,f0,f1⟩,⟨z0,z1⟩⟩:=HX8.out
  dsimp only at m0 m1 z0 z1
  have HRS:=Lib.hid (fun a b=>HX8.out.r.range a b)
  have HBS:=Lib.hid (fun a b=>set2_below HB8.out (show w.heap.size≤g+2 by have:=HGB.out;omega) a b)
  go_wp2_with fail
  refine bodyPost_ret (results_row_tmp rfl _ _ (g+2) _ _ rfl (HRS.out _ _) Tryz.underlying24 (by rfl) (by rfl)) rfl ?_
  exact ⟨by rw [hr];rfl,HBS.out _ _⟩
 | false =>
  have hl:=HLO.out
  rw [if_neg (by first|decide|simp)] at hl
  subst hl
  clear HLO
  clear HCN HK HG2
  by_cases hn:n1=0
  ·subst hn
   have hx:x=0:=by rw [HUP.out];simp
   subst hx
   clear HUP HG1
   have hr:=HR.out
   rw [if_neg (by simp)] at hr
   clear HR
   rw [if_pos (.inl (by first|rfl|trivial))] at hr
   obtain ⟨⟨k0,k1,k2,k3⟩,⟨m0,m1⟩,⟨r0,r1,f0,f1⟩,⟨z0,z1⟩⟩:=HX4.out
   dsimp only at m0 m1 z0 z1
   have HRS:=Lib.hid (fun a b=>HX4.out.r.range a b)
   have HBS:=Lib.hid (fun a b=>set2_below HB4.out (show w.heap.size≤g+2 by have:=HGB.out;omega) a b)
   go_wp2_with fail
   refine bodyPost_ret (results_row_tmp rfl _ _ (g+2) _ _ rfl (HRS.out _ _) Tryz.underlying24 (by rfl) (by rfl)) rfl ?_
   exact ⟨by rw [hr];rfl,HBS.out _ _⟩
  have qn:(n1 != 0)=true:=by simpa using hn
  have hx:x=gu1:=by rw [HUP.out,if_pos hn]
  subst hx
  clear HUP hn
  obtain ⟨⟨k0,k1,k2,k3⟩,⟨m0,m1⟩,⟨r0,r1,f0,f1⟩,⟨z0,z1⟩⟩:=HX4.out
  dsimp only at m0 m1 z0 z1
  go_wp2_with fail
  refine (HG1.out _ HB4.out).mono ?_
  rintro _ w5 ⟨rfl,hb5⟩
  have HB5:=Lib.hid (bel_step HB4.out hb5)
  have HX5:=Lib.hid (HX4.out.below hb5)
  clear k0 k1 k2 k3 m0 m1 r0 r1 f0 f1 z0 z1
  clear hb5 HB4 HX4
  clear HG1
  by_cases hx0:x=0
  ·subst hx0
   have hr:=HR.out
   rw [if_neg (by simp)] at hr
   clear HR
   rw [if_pos (.inl (by first|rfl|trivial))] at hr
   obtain ⟨⟨k0,k1,k2,k3⟩,⟨m0,m1⟩,⟨r0,r1,f0,f1⟩,⟨z0,z1⟩⟩:=HX5.out
   dsimp only at m0 m1 z0 z1
   have HRS:=Lib.hid (fun a b=>HX5.out.r.range a b)
   have HBS:=Lib.hid (fun a b=>set2_below HB5.out (show w.heap.size≤g+2 by have:=HGB.out;omega) a b)
   go_wp2_with fail
   refine bodyPost_ret (results_row_tmp rfl _ _ (g+2) _ _ rfl (HRS.out _ _) Tryz.underlying24 (by rfl) (by rfl)) rfl ?_
   exact ⟨by rw [hr];rfl,HBS.out _ _⟩
  have qx:(x != 0)=true:=by simpa using hx0
  have hr:=HR.out
  rw [if_pos hx0] at hr
  clear HR hx0
  have HKX:=Lib.hid (fun W (hb:Below w.heap.size w W)=>HK1.out W x hb)
  have HKL:=Lib.hid (fun W (hb:Below w.heap.size w W)=>HK2.out W 0 hb)
  have HOX:=Lib.hid (fun W (hb:Below w.heap.size w W)=>HOP.out W x hb)
  clear HK1 HK2 HOP
  generalize U.kindOf x=kx at *
  generalize L.kindOf 0=kl at *
  generalize opq U x=ox at *
  obtain ⟨⟨k0,k1,k2,k3⟩,⟨m0,m1⟩,⟨r0,r1,f0,f1⟩,⟨z0,z1⟩⟩:=HX5.out
  dsimp only at m0 m1 z0 z1
  go_wp2_with fail
  refine (HKX.out _ HB5.out).mono ?_
  rintro _ w6 ⟨rfl,hb6⟩
  have HB6:=Lib.hid (bel_step HB5.out hb6)
  have HX6:=Lib.hid (HX5.out.below hb6)
  clear k0 k1 k2 k3 m0 m1 r0 r1 f0 f1 z0 z1
  clear hb6 HB5 HX5
  by_cases h4:kx=4
  ·rw [if_pos h4] at hr
   subst h4
   obtain ⟨⟨k0,k1,k2,k3⟩,⟨m0,m1⟩,⟨r0,r1,f0,f1⟩,⟨z0,z1⟩⟩:=HX6.out
   dsimp only at m0 m1 z0 z1
   have HRS:=Lib.hid (fun a b=>HX6.out.r.range a b)
   have HBS:=Lib.hid (fun a b=>set2_below HB6.out (show w.heap.size≤g+2 by have:=HGB.out;omega) a b)
   go_wp2_with fail
   refine bodyPost_ret (results_row_tmp rfl _ _ (g+2) _ _ rfl (HRS.out _ _) Tryz.underlying24 (by rfl) (by rfl)) rfl ?_
   exact ⟨by rw [hr];rfl,HBS.out _ _⟩
  have q4:(kx == 4)=false:=by simpa using h4
  rw [if_neg h4] at hr
  clear h4
  obtain ⟨⟨k0,k1,k2,k3⟩,⟨m0,m1⟩,⟨r0,r1,f0,f1⟩,⟨z0,z1⟩⟩:=HX6.out
  dsimp only at m0 m1 z0 z1
  go_wp2_with fail
  refine (HKX.out _ HB6.out).mono ?_
  rintro _ w7 ⟨rfl,hb7⟩
  have HB7:=Lib.hid (bel_step HB6.out hb7)
  have HX7:=Lib.hid (HX6.out.below hb7)
  clear k0 k1 k2 k3 m0 m1 r0 r1 f0 f1 z0 z1
  clear hb7 HB6 HX6
  by_cases h2:kx=2
  ·subst h2
   clear q4
   obtain ⟨⟨k0,k1,k2,k3⟩,⟨m0,m1⟩,⟨r0,r1,f0,f1⟩,⟨z0,z1⟩⟩:=HX7.out
   dsimp only at m0 m1 z0 z1
   go_wp2_with fail
   refine (HOX.out _ HB7.out).mono ?_
   rintro _ w8 ⟨rfl,hb8⟩
   have HB8:=Lib.hid (bel_step HB7.out hb8)
   have HX8:=Lib.hid (HX7.out.below hb8)
   clear k0 k1 k2 k3 m0 m1 r0 r1 f0 f1 z0 z1
   clear hb8 HB7 HX7
   cases ox with
   | true =>
    rw [if_neg (fun e=>by cases e.2.1)] at hr
    obtain ⟨⟨k0,k1,k2,k3⟩,⟨m0,m1⟩,⟨r0,r1,f0,f1⟩,⟨z0,z1⟩⟩:=HX8.out
    dsimp only at m0 m1 z0 z1
    have HRS:=Lib.hid (fun a b=>HX8.out.r.range a b)
    have HBS:=Lib.hid (fun a b=>set2_below HB8.out (show w.heap.size≤g+2 by have:=HGB.out;omega) a b)
    go_wp2_with fail
    refine bodyPost_ret (results_row_tmp rfl _ _ (g+2) _ _ rfl (HRS.out _ _) Tryz.underlying24 (by rfl) (by rfl)) rfl ?_
    exact ⟨by rw [hr];rfl,HBS.out _ _⟩
   | false =>
    obtain ⟨⟨k0,k1,k2,k3⟩,⟨m0,m1⟩,⟨r0,r1,f0,f1⟩,⟨z0,z1⟩⟩:=HX8.out
    dsimp only at m0 m1 z0 z1
    go_wp2_with fail
    refine (HKL.out _ HB8.out).mono ?_
    rintro _ w9 ⟨rfl,hb9⟩
    have HB9:=Lib.hid (bel_step HB8.out hb9)
    have HX9:=Lib.hid (HX8.out.below hb9)
    clear k0 k1 k2 k3 m0 m1 r0 r1 f0 f1 z0 z1
    clear hb9 HB8 HX8
    by_cases hl:kl=2
    ·rw [if_pos ⟨by first|rfl|trivial,by first|rfl|trivial,hl⟩] at hr
     subst hl
     obtain ⟨⟨k0,k1,k2,k3⟩,⟨m0,m1⟩,⟨r0,r1,f0,f1⟩,⟨z0,z1⟩⟩:=HX9.out
     dsimp only at m0 m1 z0 z1
     have HRS:=Lib.hid (fun a b=>HX9.out.r.range a b)
     have HBS:=Lib.hid (fun a b=>set2_below HB9.out (show w.heap.size≤g+2 by have:=HGB.out;omega) a b)
     go_wp2_with fail
     refine bodyPost_ret (results_row_tmp rfl _ _ (g+2) _ _ rfl (HRS.out _ _) Tryz.underlying24 (by rfl) (by rfl)) rfl ?_
     exact ⟨by rw [hr];rfl,HBS.out _ _⟩
    have ql:(kl == 2)=false:=by simpa using hl
    rw [if_neg (fun e=>hl e.2.2)] at hr
    clear hl
    obtain ⟨⟨k0,k1,k2,k3⟩,⟨m0,m1⟩,⟨r0,r1,f0,f1⟩,⟨z0,z1⟩⟩:=HX9.out
    dsimp only at m0 m1 z0 z1
    have HRS:=Lib.hid (fun a b=>HX9.out.r.range a b)
    have HBS:=Lib.hid (fun a b=>set2_below HB9.out (show w.heap.size≤g+2 by have:=HGB.out;omega) a b)
    go_wp2_with fail
    refine bodyPost_ret (results_row_tmp rfl _ _ (g+2) _ _ rfl (HRS.out _ _) Tryz.underlying24 (by rfl) (by rfl)) rfl ?_
    exact ⟨by rw [hr];rfl,HBS.out _ _⟩
  have q2:(kx == 2)=false:=by simpa using h2
  rw [if_neg (fun e=>h2 e.1)] at hr
  clear h2
  obtain ⟨⟨k0,k1,k2,k3⟩,⟨m0,m1⟩,⟨r0,r1,f0,f1⟩,⟨z0,z1⟩⟩:=HX7.out
  dsimp only at m0 m1 z0 z1
  have HRS:=Lib.hid (fun a b=>HX7.out.r.range a b)
  have HBS:=Lib.hid (fun a b=>set2_below HB7.out (show w.heap.size≤g+2 by have:=HGB.out;omega) a b)
  go_wp2_with fail
  refine bodyPost_ret (results_row_tmp rfl _ _ (g+2) _ _ rfl (HRS.out _ _) Tryz.underlying24 (by rfl) (by rfl)) rfl ?_
  exact ⟨by rw [hr];rfl,HBS.out _ _⟩
end Go.Proofs.YtgoddboicjfkcaaGreat.mg
namespace Go.Proofs.YtgoddboicjfkcaaGreat.mg
open Go.RowKit
open dn (En lget lset ldel nerr dotB Sorted lessB)
open br (BS Ino Inv fresh)
theorem get_in {S:BS} {room:Nat} (hI:Inv S room) {d:Int} {s:ByteArray} (e:(S.get d s).2=0):s∈(S.all d).1.map (·.1)∧s≠⟨#[]⟩:=by
 obtain ⟨D,rfl,h1,h2,h3,h4⟩:=br.get_ok e
 have hm:=(dn.lget_some (hI.sorted D)).1 h4
 refine ⟨List.mem_map.2 ⟨(s,(S.get (D:Int) s).1),?_,rfl⟩,?_⟩
 ·unfold BS.all
  rw [if_neg,br.at_nat]
  ·exact hm
  ·unfold BS.dirE BS.isI
   rw [br.at_nat,decide_eq_true ⟨by omega,by omega,by rw [h3];decide⟩,h3]
   simp
 ·rintro rfl
  have:=(hI.good D _ hm).1
  unfold nerr at this
  rw [if_pos rfl] at this
  cases this
theorem name_in {U L:BS} {room room2:Nat} (hU:Inv U room) (hL:Inv L room2) {n:Nd} {s:ByteArray} (h:(getV U L n s).2=0) :
  s∈((U.all n.1).1++(L.all n.2).1).map (·.1)∧s≠⟨#[]⟩:=by
 have hd:=get_down hU hL n s h
 rw [List.map_append,List.mem_append]
 by_cases e:(getV U L n s).1.1=0
 ·have e2:(getV U L n s).1.2≠0:=fun e2=>hd.some (Prod.ext e e2)
  have:=get_in hL (d:=n.2) (s:=s) (by rw [hd.low e2])
  exact ⟨.inr this.1,this.2⟩
 ·have:=get_in hU (d:=n.1) (s:=s) (by rw [hd.up e])
  exact ⟨.inl this.1,this.2⟩
def bhd (l:List ByteArray) (j:Nat) (x:ByteArray):Bool:=decide (j=0) || lessB ((l[j - 1]?).getD ⟨#[]⟩) x
def stA (U L:BS) (n:Nd) (l:List ByteArray) (j:Nat) (b x:ByteArray):ByteArray :=
 if (bhd l j x && (decide (b=⟨#[]⟩) || lessB x b))=true∧(getV U L n x).2=0 then x else b
def bestA (U L:BS) (n:Nd) (l:List ByteArray) (j:Nat) (A:List ByteArray):ByteArray:=A.foldl (stA U L n l j) ⟨#[]⟩
def Cand (U L:BS) (n:Nd) (l:List ByteArray) (j:Nat) (x:ByteArray):Prop:=bhd l j x=true∧(getV U L n x).2=0
theorem best_inv {U L:BS} {room room2:Nat} (hU:Inv U room) (hL:Inv L room2) (n:Nd) (l:List ByteArray) (j:Nat):∀ (A D:List ByteArray) (b:ByteArray),
  ((b=⟨#[]⟩∧∀ x∈D,¬ Cand U L n l j x)∨(b≠⟨#[]⟩∧Cand U L n l j b∧∀ x∈D,Cand U L n l j x→lessB x b=false)) →
  ((A.foldl (stA U L n l j) b=⟨#[]⟩∧∀ x∈D++A,¬ Cand U L n l j x)∨(A.foldl (stA U L n l j) b≠⟨#[]⟩∧Cand U L n l j (A.foldl (stA U L n l j) b)∧∀ x∈D++A,Cand U L n l j x→lessB x (A.foldl (stA U L n l j) b)=false))
 | [],D,b,h=>by simpa using h
 | x::A,D,b,h=>by
  rw [List.foldl_cons]
  have e0:D++x::A=(D++[x])++A:=by simp
  rw [e0]
  clear e0
  refine best_inv hU hL n l j A (D++[x]) (stA U L n l j b x) ?_
  unfold stA
  by_cases hc:(bhd l j x && (decide (b=⟨#[]⟩) || lessB x b))=true∧(getV U L n x).2=0
  ·rw [if_pos hc]
   obtain ⟨h1,h2⟩:=hc
   rw [Bool.and_eq_true,Bool.or_eq_true,decide_eq_true_eq] at h1
   refine .inr ⟨(name_in hU hL h2).2,⟨h1.1,h2⟩,fun y hy hcy=>?_⟩
   rcases List.mem_append.1 hy with hy|hy
   ·rcases h with ⟨e,h⟩|⟨e,h3,h⟩
    ·exact absurd hcy (h y hy)
    ·rcases h1.2 with h1|h1
     ·exact absurd h1 e
     ·have h4:=h y hy hcy
      cases h5:lessB y x with
      | false=>rfl
      | true=>rw [dn.less_trans h5 h1] at h4;cases h4
   ·rw [List.mem_singleton] at hy;subst hy;exact dn.less_irrefl _
  ·rw [if_neg hc]
   rcases h with ⟨e,h⟩|⟨e,h3,h⟩
   ·refine .inl ⟨e,fun y hy hcy=>?_⟩
    rcases List.mem_append.1 hy with hy|hy
    ·exact h y hy hcy
    ·rw [List.mem_singleton] at hy
     subst hy
     exact hc ⟨by rw [hcy.1,decide_eq_true e];rfl,hcy.2⟩
   ·refine .inr ⟨e,h3,fun y hy hcy=>?_⟩
    rcases List.mem_append.1 hy with hy|hy
    ·exact h y hy hcy
    ·rw [List.mem_singleton] at hy
     subst hy
     cases h5:lessB y b with
     | false=>rfl
     | true=>exact absurd ⟨by rw [hcy.1,h5];simp,hcy.2⟩ hc
theorem rise_lt {l:List ByteArray} (h:l.Pairwise fun a b=>lessB a b=true) {i k:Nat} {x y:ByteArray} (hx:l[i]?=some x) (hy:l[k]?=some y) (hik:i<k):lessB x y=true:=by
 obtain ⟨h1,rfl⟩:=List.getElem?_eq_some_iff.1 hx
 obtain ⟨h2,rfl⟩:=List.getElem?_eq_some_iff.1 hy
 exact List.pairwise_iff_getElem.1 h i k h1 h2 hik
theorem best_is {U L:BS} {room room2:Nat} (hU:Inv U room) (hL:Inv L room2) {n:Nd} {l:List ByteArray} (hl:AllV U L n l) (j:Nat) (hjl:j≤l.length) :
  bestA U L n l j (((U.all n.1).1++(L.all n.2).1).map (·.1))=(l[j]?).getD ⟨#[]⟩:=by
 have H:=best_inv hU hL n l j (((U.all n.1).1++(L.all n.2).1).map (·.1)) [] ⟨#[]⟩ (.inl ⟨rfl,fun x h=>(nomatch h)⟩)
 rw [List.nil_append] at H
 unfold bestA
 generalize (((U.all n.1).1++(L.all n.2).1).map (·.1)).foldl (stA U L n l j) ⟨#[]⟩=b at H
 have hcand:∀ x,l[j]?=some x→Cand U L n l j x∧x∈((U.all n.1).1++(L.all n.2).1).map (·.1):=fun x hx=>by
  have hm:=(hl.mem x).1 (List.mem_of_getElem? hx)
  refine ⟨⟨?_,hm⟩,(name_in hU hL hm).1⟩
  unfold bhd
  by_cases h0:j=0
  ·rw [decide_eq_true h0];rfl
  ·obtain ⟨hj,_⟩:=List.getElem?_eq_some_iff.1 hx
   have hp:l[j - 1]?=some l[j - 1]:=List.getElem?_eq_getElem _
   rw [hp,Option.getD_some,rise_lt hl.rise hp hx (by omega),Bool.or_true]
 have hback:∀ x,Cand U L n l j x→∃ k,j≤k∧l[k]?=some x:=fun x hc=>by
  obtain ⟨k,hk⟩:=List.mem_iff_getElem?.1 ((hl.mem x).2 hc.2)
  refine ⟨k,?_,hk⟩
  refine Nat.le_of_not_lt fun hkj=>?_
  have h1:=hc.1
  unfold bhd at h1
  rw [decide_eq_false (show ¬ j=0 by omega),Bool.false_or] at h1
  by_cases hj:j - 1<l.length
  ·have hp:l[j - 1]?=some l[j - 1]:=List.getElem?_eq_getElem _
   rw [hp,Option.getD_some] at h1
   by_cases e:k=j - 1
   ·subst e
    rw [hp] at hk
    injection hk with hk
    rw [hk,dn.less_irrefl] at h1
    cases h1
   ·have h2:=rise_lt hl.rise hk hp (by omega)
    rw [dn.less_asymm h2] at h1
    cases h1
  ·omega
 cases hj:l[j]? with
 | none =>
  rcases H with ⟨e,h⟩|⟨e,h1,h⟩
  ·exact e
  ·obtain ⟨k,h2,h3⟩:=hback b h1
   rw [List.getElem?_eq_none_iff] at hj
   obtain ⟨h4,_⟩:=List.getElem?_eq_some_iff.1 h3
   omega
 | some x =>
  obtain ⟨c1,c2⟩:=hcand x hj
  rcases H with ⟨e,h⟩|⟨e,h1,h⟩
  ·exact absurd c1 (h x c2)
  ·obtain ⟨k,h2,h3⟩:=hback b h1
   by_cases e2:k=j
   ·subst e2
    rw [hj] at h3
    injection h3 with h3
    exact h3.symm
   ·have h4:=rise_lt hl.rise hj h3 (by omega)
    rw [h x c2 c1] at h4
    cases h4
theorem best_short {U L:BS} {n:Nd} {l:List ByteArray} {j:Nat}:∀ (A:List ByteArray) (b:ByteArray),b.size≤60→(∀ x∈A,x.size≤60)→(A.foldl (stA U L n l j) b).size≤60
 | [],b,h,_=>h
 | x::A,b,h,k=>by
  rw [List.foldl_cons]
  refine best_short A _ ?_ fun y hy=>k y (List.mem_cons_of_mem _ hy)
  unfold stA
  split
  ·exact k x List.mem_cons_self
  ·exact h
theorem best_next {U L:BS} {n:Nd} {l:List ByteArray} {j i:Nat} {A:List ByteArray} {x:ByteArray} (h:A[i]?=some x):bestA U L n l j (A.take (i+1))=stA U L n l j (bestA U L n l j (A.take i)) x:=by
 unfold bestA;rw [List.take_add_one,h,List.foldl_append];rfl
theorem st_no1 {U L:BS} {n:Nd} {l:List ByteArray} {j:Nat} {b x:ByteArray} (h:bhd l j x=false):stA U L n l j b x=b:=by unfold stA;rw [h];exact if_neg (by simp)
theorem st_no2 {U L:BS} {n:Nd} {l:List ByteArray} {j:Nat} {b x:ByteArray} (h:b≠⟨#[]⟩) (h2:lessB x b=false):stA U L n l j b x=b:=by unfold stA;rw [h2,decide_eq_false h];exact if_neg (by simp)
theorem st_no3 {U L:BS} {n:Nd} {l:List ByteArray} {j:Nat} {b x:ByteArray} (h:(getV U L n x).2≠0):stA U L n l j b x=b:=if_neg fun e=>h e.2
theorem st_yes {U L:BS} {n:Nd} {l:List ByteArray} {j:Nat} {b x:ByteArray} (h:bhd l j x=true) (h2:b=⟨#[]⟩∨lessB x b=true) (h3:(getV U L n x).2=0):stA U L n l j b x=x:=by
 refine if_pos ⟨?_,h3⟩
 rw [h,Bool.true_and,Bool.or_eq_true,decide_eq_true_eq]
 exact h2
theorem bhd_zero (l:List ByteArray) (x:ByteArray):bhd l 0 x=true:=rfl
theorem bhd_succ {l:List ByteArray} {j:Nat} {o:ByteArray} (h:l[j]?=some o) (x:ByteArray):bhd l (j+1) x=lessB o x:=by unfold bhd;rw [Nat.add_sub_cancel,h];rfl
end Go.Proofs.YtgoddboicjfkcaaGreat.mg
