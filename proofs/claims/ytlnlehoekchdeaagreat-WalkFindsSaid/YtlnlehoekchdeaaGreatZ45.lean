/- 'Walk': the walker's box, its deferred function, its loop; 'at'. The laws' state: a branch and what was found beside it; the calls that the laws look at first. -/
import Derived.Test.YtlnlehoekchdeaaGreatZ32
import Derived.Test.YtlnlehoekchdeaaGreatZ44
import Derived.Defers
import Derived.Recover
import Derived.Laws.StructEq
section
namespace Go.Proofs.YtlnlehoekchdeaaGreat.cb
open Go.RowKit Go.Deep
open Go.Proofs.YtlnlehoekchdeaaGreat.br
open Go.Proofs.YtlnlehoekchdeaaGreat.bl (Pq Only)
open Go.Proofs.YtlnlehoekchdeaaGreat.pa (Bs Sv Strs Own OwnE ParseE parse_any pnames_le)
open Go.Proofs.YtlnlehoekchdeaaGreat.wk (walkT)
set_option linter.unusedVariables false
set_option linter.unusedSimpArgs false

set_option maxRecDepth 100000 in
theorem catch_idle (p q : Addr) (w : World) :
    CallsD Tryz.prog 31 #[.pointer (some p), .pointer (some q)] .returning w fun e u' w' => e = .returned (.tuple #[]) ∧ u' = .returning ∧ w' = w := by
  refine callsD_of_wpS Tryz.func31 rfl fun c₀ cs hu => ?_
  apply wpS_seq
  apply wpS_region
  simp [wpOpsS, go_sem, recoverD, hu, Tryz.ntmps31, Exit.thenS]
  refine wpS_cond (t := false) (by simp [Act.eval, Array.replicate]) ?_
  simp only [Bool.false_eq_true, if_false]
  refine wpS_of_wp (wp_skip ?_)
  cases c₀
  simp_all [bodyPostS, results, Tryz.results31]
set_option maxRecDepth 100000 in
theorem results_row_cell {fn : Func} {p u : Tmp} (h : fn.results = #[.cell p 32, .cell u 33]) (tmps : Array Value) (w : World) (b b2 : Nat) (x y z e : Value)
    (hp : tmps.getD p undef = .pointer (some ⟨b, 0, none⟩)) (hu : tmps.getD u undef = .pointer (some ⟨b2, 0, none⟩)) (hc : w.rangeAt b 0 [x, y, z]) (hc2 : w.cell? ⟨b2, 0, none⟩ = some e) :
    (results fn tmps).run Tryz.prog w = .ok (.tuple #[.agg #[x, y, z], e]) w := by
  rw [Array.getD_eq_getD_getElem?] at hp hu
  have h1 := run_loadVar_mid (P := Tryz.prog) w b 0 32 [x, y, z] _ hc Tryz.underlying32 (by rfl) (by rfl)
  have h2 : (loadVar 33 ⟨b2, 0, none⟩).run Tryz.prog w = .ok e w := by
    simp [loadVar, go_sem, hc2]
  simp only [results, h]
  simp [Sem.run_bind, Result.andThen, hp, hu, asAddr, h1, h2]
theorem Ctr.mono {w0 w1 : World} {P : Nat} {S : BS} (h : Ctr w0 P S) (hb : Below w0.heap.size w0 w1) : Ctr w1 P S :=
  ⟨fun w2 i h2 => h.kind w2 i (dn.below_step hb h2), fun w2 a n h2 => h.get w2 a n (dn.below_step hb h2), fun w2 i h2 => h.parent w2 i (dn.below_step hb h2), fun w2 i h2 => h.target w2 i (dn.below_step hb h2)⟩
def TopE (w : World) (R : wk.Rs) (e : Ending) (w' : World) : Prop := e = .returned (FoundV R) ∧ Below w.heap.size w w'
set_option maxRecDepth 100000 in
set_option maxHeartbeats 1000000 in
theorem top_any {w : World} {P n c : Nat} {A : Option Addr} {ns : List Bs} {d fol : Bool} {S : BS} (hC : Ctr w P S) (hn : n = ns.length) (hl : n ≤ 400) (hc : n ≤ c) (hs : Strs w w.heap.size A ns) :
    Calls Tryz.prog 13 #[.iface 27 (Pq P), .agg #[.slice A n c, .bool d], .bool fol] w (TopE w (walkT (trS S) fol 40 1 (nsB ns) d)) := by
  subst hn
  have hmf : ∀ (fn : Fn) (first cap : Array Value) (W : World), (Instr.makeFunc fn first cap).run Tryz.prog W = .ok (.func fn first cap) W := fun _ _ _ _ => rfl
  obtain ⟨b, hb⟩ : ∃ b, w.heap.size = b := ⟨_, rfl⟩
  obtain ⟨w1, hw1⟩ : ∃ w1, w.alloc (.cells #[.slice A ns.length c, .bool d] 25) = w1 := ⟨_, rfl⟩
  obtain ⟨w2, hw2⟩ : ∃ w2, w1.alloc (.cells #[.int .i64 0, .string ⟨#[]⟩, .int .i64 0] 32) = w2 := ⟨_, rfl⟩
  obtain ⟨w3, hw3⟩ : ∃ w3, w2.alloc (.cells #[.int .i64 0] 33) = w3 := ⟨_, rfl⟩
  have s1 : w1.heap.size = b + 1 := by rw [← hw1, World.size_alloc, hb]
  have s2 : w2.heap.size = b + 2 := by rw [← hw2, World.size_alloc, s1]
  have s3 : w3.heap.size = b + 3 := by rw [← hw3, World.size_alloc, s2]
  have b1 : Below w.heap.size w w1 := by rw [← hw1]; exact dn.below_alloc w _
  have b2 : Below w1.heap.size w1 w2 := by rw [← hw2]; exact dn.below_alloc w1 _
  have b3 : Below w2.heap.size w2 w3 := by rw [← hw3]; exact dn.below_alloc w2 _
  have HB3 := Lib.hid (dn.below_step (dn.below_step b1 b2) b3)
  have q1 : w3.heap[b]? = some (.cells #[.slice A ns.length c, .bool d] 25 (0, 0)) := by
    rw [b3.block b (by omega), b2.block b (by omega), ← hw1, ← hb]; exact heap_alloc_new w _
  have HQ2 := Lib.hid (show w3.heap[b + 1]? = some (.cells #[.int .i64 0, .string ⟨#[]⟩, .int .i64 0] 32 (0, 0)) by
    rw [b3.block (b + 1) (by omega), ← hw2, ← s1]; exact heap_alloc_new w1 _)
  have HQ3 := Lib.hid (show w3.heap[b + 2]? = some (.cells #[.int .i64 0] 33 (0, 0)) by rw [← hw3, ← s2]; exact heap_alloc_new w2 _)
  have c0 : w3.cell? ⟨b, 0, none⟩ = some (.slice A ns.length c) := by rw [cell_row q1]; rfl
  have c1 : w3.cell? ⟨b, 1, none⟩ = some (.bool d) := by rw [cell_row q1]; rfl
  have HST := Lib.hid (show ∀ ob, Nms (w3.alloc ob) w3.heap.size A ns from fun ob hn => by
    obtain ⟨ad, e, h1, h2⟩ := hs hn
    have hb4 := dn.below_step HB3.out (dn.below_alloc w3 ob)
    exact ⟨ad, e, by omega, by rw [World.size_alloc]; omega, fun j x hx => (hb4.cell (p := ad.add j) (by rw [pa.addr_block]; omega)).trans (h2 j x hx)⟩)
  have HW := Lib.hid (show Wbx (w3.alloc (.cells #[.iface 27 (Pq P), .int .i64 1, .slice A ns.length c, .bool d, .bool fol, .int .i64 0] 61)) w3.heap.size P 1 A c ns d fol 0 from
    ⟨by simp, by simp, by simp, by simp, by simp, by simp, fun j => by simp, HST.out _, hc⟩)
  have HK := Lib.hid (walk_any (w0 := w3) HW.out (dn.below_alloc w3 _) (Nat.le_refl _) (hC.mono HB3.out) hl)
  unfold WalkE at HK
  obtain ⟨R, hR⟩ : ∃ R, walkT (trS S) fol 40 1 (nsB ns) d = R := ⟨_, rfl⟩
  rw [hR] at HK ⊢
  obtain ⟨⟨xa, xn, xi⟩, xe⟩ := R
  unfold FoundV at HK
  dsimp only at HK
  rw [s3] at HK
  clear hR HW HST hC hs q1 b1 b2 b3
  go_enter_defers Tryz.func13, Tryz.ntmps13
  go_wp2_with fail
  refine HK.out.mono ?_
  rintro _ w5 ⟨rfl, hb5⟩
  rw [← s3] at hb5
  have r1 := (hb5.block (b + 1) (by omega)).trans HQ2.out
  have r2 := (hb5.block (b + 2) (by omega)).trans HQ3.out
  have x0 : w5.cell? ⟨b + 1, 0, none⟩ = some (.int .i64 0) := by rw [cell_row r1]; rfl
  have x1 : w5.cell? ⟨b + 1, 1, none⟩ = some (.string ⟨#[]⟩) := by rw [cell_row r1]; rfl
  have x2 : w5.cell? ⟨b + 1, 2, none⟩ = some (.int .i64 0) := by rw [cell_row r1]; rfl
  have x3 : w5.cell? ⟨b + 2, 0, none⟩ = some (.int .i64 0) := by rw [cell_row r2]; rfl
  have y0 : w5.frozen? ⟨b + 1, 0, none⟩ = false := by simp [World.frozen?, r1]
  have y1 : w5.frozen? ⟨b + 1, 1, none⟩ = false := by simp [World.frozen?, r1]
  have y2 : w5.frozen? ⟨b + 1, 2, none⟩ = false := by simp [World.frozen?, r1]
  have y3 : w5.frozen? ⟨b + 2, 0, none⟩ = false := by simp [World.frozen?, r2]
  have HS := Lib.hid (box_set3 (w := w) (t := 32) (m := (0, 0)) (B := b + 1) (by omega) r1 (dn.below_step HB3.out hb5) (.int .i64 xa) (.string xn) (.int .i64 xi))
  clear r1 r2 hb5 HQ2 HQ3
  go_wp2_with fail
  obtain ⟨hx, hy⟩ := HS.out
  have hz : (((w5.setCell ⟨b + 1, 0, none⟩ (.int .i64 xa)).setCell ⟨b + 1, 1, none⟩ (.string xn)).setCell ⟨b + 1, 2, none⟩ (.int .i64 xi)).cell? ⟨b + 2, 0, none⟩ = some (.int .i64 0) := (oth3 (by omega) _ _ _).trans x3
  have hne : ∀ j, (⟨b + 2, 0, none⟩ : Addr) ≠ ⟨b + 1, j, none⟩ := fun j e => by injection e with e; omega
  refine leaves_cons (f := 31) (args := #[.pointer (some ⟨b + 1, 0, none⟩), .pointer (some ⟨b + 2, 0, none⟩)]) (by simp) (by simp [go_sem]) ?_
  refine (catch_idle ⟨b + 1, 0, none⟩ ⟨b + 2, 0, none⟩ _).mono ?_
  rintro e u' w'' ⟨rfl, rfl, rfl⟩
  refine ⟨_, results_row_cell rfl _ _ (b + 1) (b + 2) (.int .i64 xa) (.string xn) (.int .i64 xi) (.int .i64 xe) rfl rfl ?_ ?_, ?_⟩
  · exact fun j v hv => (World.cell?_setCell_other _ _ _ _ (by intro e; injection e with e; omega)).trans (hx j v hv)
  · exact World.cell?_setCell_same _ _ _ hz
  · exact ⟨rfl, hy.setCell (show w.heap.size ≤ (⟨b + 2, 0, none⟩ : Addr).block by show w.heap.size ≤ b + 2; omega) _⟩

set_option maxRecDepth 100000 in
set_option maxHeartbeats 1000000 in
theorem atw_any {w : World} {P : Nat} {S : BS} (hC : Ctr w P S) (s : ByteArray) (fol : Bool) : Calls Tryz.prog 15 #[Pq P, .string s, .bool fol] w (TopE w (atR S s fol)) := by
  obtain ⟨b, hb⟩ : ∃ b, w.heap.size = b := ⟨_, rfl⟩
  obtain ⟨w1, hw1⟩ : ∃ w1, w.alloc (.cells #[.int .i64 0, .string ⟨#[]⟩, .int .i64 0] 32) = w1 := ⟨_, rfl⟩
  have s1 : w1.heap.size = b + 1 := by rw [← hw1, World.size_alloc, hb]
  have HB1 := Lib.hid (show Below w.heap.size w w1 by rw [← hw1]; exact dn.below_alloc w _)
  have HQ1 := Lib.hid (show w1.heap[b]? = some (.cells #[.int .i64 0, .string ⟨#[]⟩, .int .i64 0] 32 (0, 0)) by rw [← hw1, ← hb]; exact heap_alloc_new w _)
  have HP := Lib.hid (parse_any s w1)
  have HC := Lib.hid hC
  unfold ParseE at HP
  have HPE := Lib.hid (show pa.perr s.data.toList = wk.pe s from rfl)
  obtain ⟨ns, hns⟩ : ∃ ns, pa.pnames s.data.toList = ns := ⟨_, rfl⟩
  have HPN := Lib.hid (show wk.pn s = nsB ns by rw [← hns]; rfl)
  have hnl : ns.length ≤ 40 := by rw [← hns]; exact pnames_le _
  obtain ⟨dp, hdp⟩ : ∃ dp, pa.pdirE s.data.toList = dp := ⟨_, rfl⟩
  have HPD := Lib.hid (show wk.pd s = dp from hdp)
  obtain ⟨er, her⟩ : ∃ er, wk.pe s = er := ⟨_, rfl⟩
  have HER := Lib.hid her
  rw [hns, hdp, HPE.out, her] at HP
  obtain ⟨n, hn⟩ : ∃ n, ns.length = n := ⟨_, rfl⟩
  have HN := Lib.hid hn
  rw [hn] at HP hnl
  clear hC hns hdp her hn
  by_cases he : er = 0
  case neg =>
    have HF := Lib.hid (show atR S s fol = (wk.r0, er) by unfold atR; rw [HER.out, if_pos he])
    have qe : (er != 0) = true := by simpa using he
    clear he
    go_enter Tryz.func15, Tryz.ntmps15
    go_wp2_with fail
    refine HP.out.mono ?_
    rintro _ w2 ⟨A1, c1, rfl, -, hb2⟩
    have HB3 := Lib.hid (fun ob => dn.below_step hb2 (dn.below_alloc w2 ob))
    have HR3 := Lib.hid (fun ob => ((HB3.out ob).block b (by omega)).trans HQ1.out)
    have x0 : ∀ ob, (w2.alloc ob).cell? ⟨b, 0, none⟩ = some (.int .i64 0) := fun ob => by rw [cell_row (HR3.out ob)]; rfl
    have x1 : ∀ ob, (w2.alloc ob).cell? ⟨b, 1, none⟩ = some (.string ⟨#[]⟩) := fun ob => by rw [cell_row (HR3.out ob)]; rfl
    have x2 : ∀ ob, (w2.alloc ob).cell? ⟨b, 2, none⟩ = some (.int .i64 0) := fun ob => by rw [cell_row (HR3.out ob)]; rfl
    have y0 : ∀ ob, (w2.alloc ob).frozen? ⟨b, 0, none⟩ = false := fun ob => by simp only [World.frozen?, HR3.out ob]; simp
    have y1 : ∀ ob, (w2.alloc ob).frozen? ⟨b, 1, none⟩ = false := fun ob => by simp only [World.frozen?, HR3.out ob]; simp
    have y2 : ∀ ob, (w2.alloc ob).frozen? ⟨b, 2, none⟩ = false := fun ob => by simp only [World.frozen?, HR3.out ob]; simp
    have HS := Lib.hid (fun ob => box_set3 (w := w) (t := 32) (m := (0, 0)) (B := b) (by omega) (HR3.out ob) (dn.below_step HB1.out (HB3.out ob)) (.int .i64 0) (.string ⟨#[]⟩) (.int .i64 0))
    clear hb2
    go_wp2_with fail
    obtain ⟨hx, hy⟩ := HS.out _
    refine bodyPost_ret (results_row_tmp rfl _ _ b _ _ rfl hx Tryz.underlying32 (by rfl) (by rfl)) rfl ?_
    exact ⟨by rw [HF.out]; rfl, hy⟩
  subst he
  have HF := Lib.hid (show atR S s fol = walkT (trS S) fol 40 1 (nsB ns) dp by unfold atR; rw [HER.out, if_neg (wk.nn rfl), HPN.out, HPD.out])
  obtain ⟨R, hR⟩ : ∃ R, walkT (trS S) fol 40 1 (nsB ns) dp = R := ⟨_, rfl⟩
  have HRR := Lib.hid hR
  rw [hR] at HF
  clear hR
  go_enter Tryz.func15, Tryz.ntmps15
  go_wp2_with fail
  refine HP.out.mono ?_
  rintro _ w2 ⟨A1, c1, rfl, hown, hb2⟩
  have HB3 := Lib.hid (fun ob => dn.below_step hb2 (dn.below_alloc w2 ob))
  have HST := Lib.hid hown.strs
  have hcap := own_le hown
  rw [HN.out] at hcap
  have HR3 := Lib.hid (fun ob => ((HB3.out ob).block b (by omega)).trans HQ1.out)
  have HTP := Lib.hid (fun ob => top_any (w := w2.alloc ob) (fol := fol) (d := dp) (ns := ns) (HC.out.mono (dn.below_step HB1.out (HB3.out ob))) HN.out.symm (by omega) hcap (fun hn => by
    obtain ⟨ad, e, h1, h2⟩ := HST.out hn
    exact ⟨ad, e, by rw [World.size_alloc]; omega, fun j x hx => ((dn.below_alloc w2 ob).cell (p := ad.add j) (by rw [pa.addr_block]; exact h1)).trans (h2 j x hx)⟩))
  rw [HRR.out] at HTP
  unfold TopE FoundV at HTP
  obtain ⟨⟨xa, xn, xi⟩, xe⟩ := R
  dsimp only at HTP
  clear hb2 hown
  go_wp2_with fail
  refine (HTP.out _).mono ?_
  rintro _ w5 ⟨rfl, hb5⟩
  have hr5 := (hb5.block b (by rw [World.size_alloc]; have := (HB3.out (.cells #[] 0)).size; rw [World.size_alloc] at this; omega)).trans (HR3.out _)
  have x0 : w5.cell? ⟨b, 0, none⟩ = some (.int .i64 0) := by rw [cell_row hr5]; rfl
  have x1 : w5.cell? ⟨b, 1, none⟩ = some (.string ⟨#[]⟩) := by rw [cell_row hr5]; rfl
  have x2 : w5.cell? ⟨b, 2, none⟩ = some (.int .i64 0) := by rw [cell_row hr5]; rfl
  have y0 : w5.frozen? ⟨b, 0, none⟩ = false := by simp [World.frozen?, hr5]
  have y1 : w5.frozen? ⟨b, 1, none⟩ = false := by simp [World.frozen?, hr5]
  have y2 : w5.frozen? ⟨b, 2, none⟩ = false := by simp [World.frozen?, hr5]
  have HS := Lib.hid (box_set3 (w := w) (t := 32) (m := (0, 0)) (B := b) (by omega) hr5 (dn.below_step (dn.below_step HB1.out (HB3.out _)) hb5) (.int .i64 xa) (.string xn) (.int .i64 xi))
  clear hr5 hb5
  go_wp2_with fail
  obtain ⟨hx, hy⟩ := HS.out
  refine bodyPost_ret (results_row_tmp rfl _ _ b _ _ rfl hx Tryz.underlying32 (by rfl) (by rfl)) rfl ?_
  exact ⟨by rw [HF.out]; rfl, hy⟩
end Go.Proofs.YtlnlehoekchdeaaGreat.cb
end
section
namespace Go.Proofs.YtlnlehoekchdeaaGreat.cb
open Go.RowKit Go.Deep
open Go.Proofs.YtlnlehoekchdeaaGreat.br
open Go.Proofs.YtlnlehoekchdeaaGreat.bl (Pq Only)
open Go.Proofs.YtlnlehoekchdeaaGreat.pa (Bs Sv)
open Go.Proofs.YtlnlehoekchdeaaGreat.wk (walkT)
set_option linter.unusedVariables false
set_option linter.unusedSimpArgs false

theorem BrX.ctr {w0 w : World} {P room T : Nat} {X : Nat → Prop} {S : BS} (h : BrX w0 w P X S room T) : Ctr w P S :=
  ⟨fun w2 i hb => x_kind (h.below hb) i, fun w2 a n hb => x_get (h.below hb) a n, fun w2 i hb => x_parent (h.below hb) i, fun w2 i hb => x_target (h.below hb) i⟩
abbrev Fo := Int × ByteArray × Int
abbrev Fv (r : Fo) : Value := .agg #[.int .i64 r.1, .string r.2.1, .int .i64 r.2.2]
/-- What was found, in a box. -/
def Fb (w : World) (G : Nat) (r : Fo) : Prop := w.cell? ⟨G, 0, none⟩ = some (.int .i64 r.1) ∧ w.cell? ⟨G, 1, none⟩ = some (.string r.2.1) ∧ w.cell? ⟨G, 2, none⟩ = some (.int .i64 r.2.2)
theorem Fb.lt {w : World} {G : Nat} {r : Fo} (h : Fb w G r) : G < w.heap.size := World.block_lt_of_cell? _ _ h.1
theorem Fb.below {w w' : World} {G : Nat} {r : Fo} (h : Fb w G r) (hb : Below w.heap.size w w') : Fb w' G r :=
  ⟨(hb.cell (p := ⟨G, 0, none⟩) h.lt).trans h.1, (hb.cell (p := ⟨G, 1, none⟩) h.lt).trans h.2.1, (hb.cell (p := ⟨G, 2, none⟩) h.lt).trans h.2.2⟩
theorem Fb.same {w w' : World} {G : Nat} {r : Fo} (h : Fb w G r) (hb : w'.heap[G]? = w.heap[G]?) : Fb w' G r :=
  ⟨(World.cell?_of_block (a := ⟨G, 0, none⟩) hb).trans h.1, (World.cell?_of_block (a := ⟨G, 1, none⟩) hb).trans h.2.1, (World.cell?_of_block (a := ⟨G, 2, none⟩) hb).trans h.2.2⟩
theorem Fb.new (w : World) (r : Fo) : Fb (w.alloc (.cells #[.int .i64 r.1, .string r.2.1, .int .i64 r.2.2] 32)) w.heap.size r := ⟨by simp, by simp, by simp⟩
theorem names_beq (a b : ByteArray) : (a.toList == b.toList) = decide (a = b) := dn.beq_names a b
set_option maxRecDepth 100000 in
theorem run_equal32 (x y : Fo) (w : World) : (Op.equalIn 10000 32 (Fv x) (Fv y)).run Tryz.prog w = .ok (decide (x = y)) w := by
  have hS : Tryz.prog.underlying 32 = some (.struct (Tryz.prog.fieldsOf 32)) := by kernel_rfl
  have hp : Tryz.prog.stoodInHeld 32 = false := by kernel_rfl
  have u3 := Tryz.underlying3
  have u9 := Tryz.underlying9
  have a3 := Tryz.isAgg3
  have z3 := Tryz.sizeOf3
  have a9 := Tryz.isAgg9
  have z9 := Tryz.sizeOf9
  have e : decide (x = y) = (x.1 == y.1 && (x.2.1.toList == y.2.1.toList && x.2.2 == y.2.2)) := by
    rw [names_beq]
    obtain ⟨a, b, c⟩ := x
    obtain ⟨a', b', c'⟩ := y
    by_cases h1 : a = a' <;> by_cases h2 : b = b' <;> by_cases h3 : c = c' <;> simp [h1, h2, h3]
  rw [show (10000 : Nat) = 9999 + 1 from rfl, run_equalIn_agg w 9999 32 _ _ hS hp, e]
  simp only [Program.fieldsOf, Tryz.underlying32]
  go_simp
  by_cases h1 : x.1 = y.1 <;> by_cases h2 : x.2.1.toList = y.2.1.toList <;> by_cases h3 : x.2.2 = y.2.2 <;> simp [h1, h2, h3]
theorem run_eql32 (x y : Fo) (w : World) : (binOp .eql 32 (Fv x) (Fv y)).run Tryz.prog w = .ok (.bool (decide (x = y))) w := by
  rw [run_eql_struct, run_equal32]; rfl
theorem guard32 (op : BinOp) (a b : Operand) (xs ys : Array Value) (w : World) : (eqGuard op 32 a b (.agg xs) (.agg ys)).run Tryz.prog w = .ok () w := run_eqGuard_agg w op 32 a b xs ys (by kernel_rfl)

def AwakeE (w : World) (e : Ending) (w' : World) : Prop := e = .returned (.bool true) ∧ Below w.heap.size w w'
set_option maxRecDepth 100000 in
set_option maxHeartbeats 8000000 in
theorem awake_any (w : World) : Calls Tryz.prog 11 #[] w (AwakeE w) := by
  have HN := Lib.hid (x_new9 (Below.refl w.heap.size w))
  have hg := guard32
  have e1 : ∀ W, (binOp .eql 32 (.agg #[.int .i64 2, .string tB, .int .i64 3]) (.agg #[.int .i64 2, .string tB, .int .i64 3])).run Tryz.prog W = .ok (.bool true) W := fun W => run_eql32 (2, tB, 3) (2, tB, 3) W
  have e2 : ∀ W, (binOp .eql 32 (.agg #[.int .i64 1, .string tL, .int .i64 4]) (.agg #[.int .i64 1, .string tL, .int .i64 4])).run Tryz.prog W = .ok (.bool true) W := fun W => run_eql32 (1, tL, 4) (1, tL, 4) W
  have e3 : ∀ W, (binOp .eql 32 (.agg #[.int .i64 1, .string tA, .int .i64 2]) (.agg #[.int .i64 1, .string tA, .int .i64 2])).run Tryz.prog W = .ok (.bool true) W := fun W => run_eql32 (1, tA, 2) (1, tA, 2) W
  have e4 : ∀ W, (binOp .eql 32 (.agg #[.int .i64 2, .string tC, .int .i64 0]) (.agg #[.int .i64 2, .string tC, .int .i64 0])).run Tryz.prog W = .ok (.bool true) W := fun W => run_eql32 (2, tC, 0) (2, tC, 0) W
  go_enter Tryz.func11, Tryz.ntmps11
  go_wp2_with fail
  refine HN.out.mono ?_
  rintro _ w1 ⟨P, rfl, h1, -, -⟩
  have K1 := Lib.hid (x_make h1.forget (by decide) 1 tA 2 tE (by decide) (by decide))
  rw [v1, show (fresh.make 1 tA 2 tE).2 = V1 from rfl] at K1
  clear h1 HN
  go_wp2_with fail
  refine K1.out.mono ?_
  rintro _ w2 ⟨rfl, h2, -⟩
  have K2 := Lib.hid (x_make h2 (by decide) 2 tB 1 tE (by decide) (by decide))
  rw [v2, show (V1.make 2 tB 1 tE).2 = V2 from rfl] at K2
  clear h2 K1
  go_wp2_with fail
  refine K2.out.mono ?_
  rintro _ w3 ⟨rfl, h3, -⟩
  have K3 := Lib.hid (x_make h3 (by decide) 1 tL 3 tA (by decide) (by decide))
  rw [v3, show (V2.make 1 tL 3 tA).2 = V3 from rfl] at K3
  clear h3 K2
  go_wp2_with fail
  refine K3.out.mono ?_
  rintro _ w4 ⟨rfl, h4, -⟩
  have H4 := Lib.hid h4
  have HAT := Lib.hid (fun W (h : Ctr W P V3) s => atw_any h s false)
  have A1 := Lib.hid (fun W (h : Ctr W P V3) => (u1 ▸ atw_any h ⟨#[47, 108, 47, 98]⟩ false : Calls Tryz.prog 15 #[Pq P, .string ⟨#[47, 108, 47, 98]⟩, .bool false] W (TopE W ((2, tB, 3), 0))))
  have A2 := Lib.hid (fun W (h : Ctr W P V3) => (u2 ▸ atw_any h ⟨#[47, 108]⟩ false : Calls Tryz.prog 15 #[Pq P, .string ⟨#[47, 108]⟩, .bool false] W (TopE W ((1, tL, 4), 0))))
  have A3 := Lib.hid (fun W (h : Ctr W P V3) => (u3 ▸ atw_any h ⟨#[47, 108, 47]⟩ false : Calls Tryz.prog 15 #[Pq P, .string ⟨#[47, 108, 47]⟩, .bool false] W (TopE W ((1, tA, 2), 0))))
  have A4 := Lib.hid (fun W (h : Ctr W P V3) => (u4 ▸ atw_any h ⟨#[47, 97, 47, 99]⟩ false : Calls Tryz.prog 15 #[Pq P, .string ⟨#[47, 97, 47, 99]⟩, .bool false] W (TopE W ((2, tC, 0), 2))))
  have A5 := Lib.hid (fun W (h : Ctr W P V3) => (u5 ▸ atw_any h ⟨#[47, 97, 47, 98, 47]⟩ false : Calls Tryz.prog 15 #[Pq P, .string ⟨#[47, 97, 47, 98, 47]⟩, .bool false] W (TopE W (wk.r0, 20))))
  unfold TopE FoundV at A1 A2 A3 A4 A5
  dsimp only [wk.r0, wk.e0] at A1 A2 A3 A4 A5
  clear h4 K3 HAT
  go_wp2_with fail
  refine (A1.out _ H4.out.ctr).mono ?_
  rintro _ w5 ⟨rfl, hb5⟩
  have H5 := Lib.hid (H4.out.below hb5)
  have F1 := Lib.hid (Fb.new w5 (2, tB, 3))
  obtain ⟨G1, hG1⟩ : ∃ G, w5.heap.size = G := ⟨_, rfl⟩
  rw [hG1] at F1
  dsimp only at F1
  clear hb5 H4 A1
  go_wp2_with fail
  refine (A2.out _ (H5.out.below (dn.below_alloc _ _)).ctr).mono ?_
  rintro _ w6 ⟨rfl, hb6⟩
  have H6 := Lib.hid ((H5.out.below (dn.below_alloc _ _)).below hb6)
  have F16 := Lib.hid (F1.out.below hb6)
  have F2 := Lib.hid (Fb.new w6 (1, tL, 4))
  clear hG1
  obtain ⟨G2, hG2⟩ : ∃ G, w6.heap.size = G := ⟨_, rfl⟩
  rw [hG2] at F2
  dsimp only at F2
  clear hb6 H5 A2 F1
  go_wp2_with fail
  refine (A3.out _ (H6.out.below (dn.below_alloc _ _)).ctr).mono ?_
  rintro _ w7 ⟨rfl, hb7⟩
  have H7 := Lib.hid ((H6.out.below (dn.below_alloc _ _)).below hb7)
  have F17 := Lib.hid ((F16.out.below (dn.below_alloc _ _)).below hb7)
  have F27 := Lib.hid (F2.out.below hb7)
  have F3 := Lib.hid (Fb.new w7 (1, tA, 2))
  clear hG2
  obtain ⟨G3, hG3⟩ : ∃ G, w7.heap.size = G := ⟨_, rfl⟩
  rw [hG3] at F3
  dsimp only at F3
  clear hb7 H6 A3 F2 F16
  go_wp2_with fail
  refine (A4.out _ (H7.out.below (dn.below_alloc _ _)).ctr).mono ?_
  rintro _ w8 ⟨rfl, hb8⟩
  have H8 := Lib.hid ((H7.out.below (dn.below_alloc _ _)).below hb8)
  have F18 := Lib.hid ((F17.out.below (dn.below_alloc _ _)).below hb8)
  have F28 := Lib.hid ((F27.out.below (dn.below_alloc _ _)).below hb8)
  have F38 := Lib.hid (F3.out.below hb8)
  have F4 := Lib.hid (Fb.new w8 (2, tC, 0))
  clear hG3
  obtain ⟨G4, hG4⟩ : ∃ G, w8.heap.size = G := ⟨_, rfl⟩
  rw [hG4] at F4
  dsimp only at F4
  clear hb8 H7 A4 F3 F17 F27
  go_wp2_with fail
  refine (A5.out _ (H8.out.below (dn.below_alloc _ _)).ctr).mono ?_
  rintro _ w9 ⟨rfl, hb9⟩
  have HBF := Lib.hid (fun ob => ((H8.out.below (dn.below_alloc _ _)).below (dn.below_step hb9 (dn.below_alloc w9 ob))).bel)
  clear hG4
  have L1 := (F18.out.below (dn.below_alloc _ _)).below hb9
  have L2 := (F28.out.below (dn.below_alloc _ _)).below hb9
  have L3 := (F38.out.below (dn.below_alloc _ _)).below hb9
  have L4 := F4.out.below hb9
  have p10 : ∀ ob, (w9.alloc ob).cell? ⟨G1, 0, none⟩ = some (.int .i64 2) := fun ob => (L1.below (dn.below_alloc w9 ob)).1
  have p11 : ∀ ob, (w9.alloc ob).cell? ⟨G1, 1, none⟩ = some (.string tB) := fun ob => (L1.below (dn.below_alloc w9 ob)).2.1
  have p12 : ∀ ob, (w9.alloc ob).cell? ⟨G1, 2, none⟩ = some (.int .i64 3) := fun ob => (L1.below (dn.below_alloc w9 ob)).2.2
  have p20 : ∀ ob, (w9.alloc ob).cell? ⟨G2, 0, none⟩ = some (.int .i64 1) := fun ob => (L2.below (dn.below_alloc w9 ob)).1
  have p21 : ∀ ob, (w9.alloc ob).cell? ⟨G2, 1, none⟩ = some (.string tL) := fun ob => (L2.below (dn.below_alloc w9 ob)).2.1
  have p22 : ∀ ob, (w9.alloc ob).cell? ⟨G2, 2, none⟩ = some (.int .i64 4) := fun ob => (L2.below (dn.below_alloc w9 ob)).2.2
  have p30 : ∀ ob, (w9.alloc ob).cell? ⟨G3, 0, none⟩ = some (.int .i64 1) := fun ob => (L3.below (dn.below_alloc w9 ob)).1
  have p31 : ∀ ob, (w9.alloc ob).cell? ⟨G3, 1, none⟩ = some (.string tA) := fun ob => (L3.below (dn.below_alloc w9 ob)).2.1
  have p32 : ∀ ob, (w9.alloc ob).cell? ⟨G3, 2, none⟩ = some (.int .i64 2) := fun ob => (L3.below (dn.below_alloc w9 ob)).2.2
  have p40 : ∀ ob, (w9.alloc ob).cell? ⟨G4, 0, none⟩ = some (.int .i64 2) := fun ob => (L4.below (dn.below_alloc w9 ob)).1
  have p41 : ∀ ob, (w9.alloc ob).cell? ⟨G4, 1, none⟩ = some (.string tC) := fun ob => (L4.below (dn.below_alloc w9 ob)).2.1
  have p42 : ∀ ob, (w9.alloc ob).cell? ⟨G4, 2, none⟩ = some (.int .i64 0) := fun ob => (L4.below (dn.below_alloc w9 ob)).2.2
  clear hb9 H8 A5 F4 F18 F28 F38 L1 L2 L3 L4
  go_wp2_with fail
  go_ret
  exact ⟨rfl, HBF.out _⟩

def BldE (w0 : World) (e : Ending) (w' : World) : Prop := ∃ (ok : Bool) (P D : Nat) (S : BS), e = .returned (.tuple #[Pq P, Pq D, .bool ok]) ∧ BrX w0 w' P No S 9 60
theorem bld_any (A : Option Addr) (n c : Nat) (F : Nat → Act6) (w0 w : World) (hn : n ≤ maxLen) (hF : Acts w0 w0.heap.size A n F) (hb : Below w0.heap.size w0 w) :
    Calls Tryz.prog 12 #[.slice A n c] w (BldE w0) :=
  (build_any A n c F w0 w hn hF hb).mono fun _ _ ⟨ok, P, D, RS, S, he, pl, tg, h1, _⟩ => ⟨ok, P, D, S, he, h1.sub fun _ h => h.elim⟩
end Go.Proofs.YtlnlehoekchdeaaGreat.cb
end
