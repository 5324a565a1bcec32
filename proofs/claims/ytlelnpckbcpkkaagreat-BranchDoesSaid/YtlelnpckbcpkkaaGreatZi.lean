/- The branch's functions that turn it: an inode that is settled, a name that goes. The branch's functions that turn it: a name that goes, 'Unlink', 'Rmdir'. 'Unlink' and 'Rmdir'. A new inode: 'blank'. 'Make'. -/
import Derived.Test.YtlelnpckbcpkkaaGreatZh
namespace Go.Proofs.YtlelnpckbcpkkaaGreat.cb
open Go.RowKit
open Go.Proofs.YtlelnpckbcpkkaaGreat.qu (KN ins QL)
open Go.Proofs.YtlelnpckbcpkkaaGreat.dn (Du En lget lset ldel getV nerr dotB Sorted RetV serr lsetE)
open Go.Proofs.YtlelnpckbcpkkaaGreat.bl (AB Bod BodC StoC Only Pq cut cutR wr WR)
open Go.Proofs.YtlelnpckbcpkkaaGreat.br
set_option linter.unusedVariables false
set_option linter.unusedSimpArgs false

section
variable {w w' : World} {P lo st qb room T : Nat} {qo : Option Nat} {pl : Nat → Pl} {tag : Nat → Nat} {S : BS} {L : List KN}
theorem Nx.of {S' : BS} {T' : Nat} {L' : List KN} {qo' : Option Nat} {tag' : Nat → Nat} (h : CB w' P lo st qb qo' pl tag' S' room L' T') (hs : Stp w w' tag tag') : Nx w w' P lo st qb pl tag S' room L' T' := ⟨qo', pl, tag', h, hs, fun _ _ => rfl⟩
/-- One step and then others. -/
theorem Nx.trans {w1 w2 : World} {S'' : BS} {T'' : Nat} {L'' : List KN} {pl' : Nat → Pl} {tag' : Nat → Nat} (hs : Stp w w1 tag tag') (hp : ∀ j, (S''.ino j).kind ≠ 0 → (pl' j).nd = (pl j).nd) (h2 : Nx w1 w2 P lo st qb pl' tag' S'' room L'' T'') : Nx w w2 P lo st qb pl tag S'' room L'' T'' := by
  obtain ⟨qo2, pl2, tag2, h, hs2, hp2⟩ := h2
  exact ⟨qo2, pl2, tag2, h, hs.trans hs2, fun j hj => (hp2 j hj).trans (hp j hj)⟩
theorem CB.drew (h : CB w P lo st qb qo pl tag S room L T) : CB w.drew P lo st qb qo pl tag S room L T := h.below (Below.refl _ _).drew
theorem Stp.drew {w w' : World} {t t' : Nat → Nat} (h : Stp w w' t t') : Stp w w'.drew t t' := ⟨h.tg, h.o.drew⟩
theorem CB.sep (h : CB w P lo st qb qo pl tag S room L T) {k : Nat} (hk : k ≤ 200) (hf : (S.ino k).kind = 1) : st ≠ (pl k).bo ∧ st ≠ (pl k).bm ∧ (pl k).bo ≠ (pl k).bm := by
  have t := h.ti k hk (by rw [hf]; decide)
  have b := t.b hf
  refine ⟨fun e => ?_, fun e => ?_, fun e => ?_⟩
  · have := h.tS; rw [e, b.1] at this; omega
  · have := h.tS; rw [e, b.2] at this; omega
  · have := b.1; rw [e, b.2] at this; omega
theorem CB.bfree (h : CB w P lo st qb qo pl tag S room L T) {k : Nat} (hk : k ≤ 200) (hf : (S.ino k).kind = 1) (hu : (S.ino k).body.n ≤ S.used) (hr : S.used ≤ 65536) :
    Calls Tryz.prog 119 #[Pq st, Pq (pl k).bo] w (fun e w' => e = .returned (.tuple #[]) ∧ CB w' P lo st qb qo pl tag ⟨upd S.ino k { S.ino k with body := cut (S.ino k).body 0 }, S.used + (cut (S.ino k).body 0).n - (S.ino k).body.n⟩ room L T ∧ Stp w w' tag tag) := by
  have s := h.sep hk hf
  exact (bl.free_any st (pl k).bo (pl k).bm room S.used _ w ((h.ino k hk (by rw [hf]; decide)).bod hf) h.sto hu hr s.1 s.2.1 s.2.2).mono fun e w' ⟨he, hb⟩ => ⟨he, h.bstep hk hf hb⟩
theorem CB.bcut (h : CB w P lo st qb qo pl tag S room L T) {k : Nat} (hk : k ≤ 200) (hf : (S.ino k).kind = 1) (hu : (S.ino k).body.n ≤ S.used) (hr : S.used ≤ 65536) (off : Int) :
    Calls Tryz.prog 90 #[Pq st, Pq (pl k).bo, .int .i64 off] w (fun e w' => e = .returned (.int .i64 (cutR off)) ∧ CB w' P lo st qb qo pl tag ⟨upd S.ino k { S.ino k with body := cut (S.ino k).body off }, S.used + (cut (S.ino k).body off).n - (S.ino k).body.n⟩ room L T ∧ Stp w w' tag tag) := by
  have s := h.sep hk hf
  exact (bl.cut_any st (pl k).bo (pl k).bm room S.used _ off w ((h.ino k hk (by rw [hf]; decide)).bod hf) h.sto hu hr s.1 s.2.1 s.2.2).mono fun e w' ⟨he, hb⟩ => ⟨he, h.bstep hk hf hb⟩
theorem CB.bread (h : CB w P lo st qb qo pl tag S room L T) {k : Nat} (hk : k ≤ 200) (hf : (S.ino k).kind = 1) (off n : Int) : Calls Tryz.prog 89 #[Pq st, Pq (pl k).bo, .int .i64 off, .int .i64 n] w (bl.ReadE w (S.ino k).body off n) :=
  bl.read_any st (pl k).bo (pl k).bm _ off n w ((h.ino k hk (by rw [hf]; decide)).bod hf)
/-- What lies in no block of the branch. -/
theorem CB.bwrite (h : CB w P lo st qb qo pl tag S room L T) {k : Nat} (hk : k ≤ 200) (hf : (S.ino k).kind = 1) (hu : (S.ino k).body.n ≤ S.used) (hur : S.used ≤ room) (hr : room ≤ 65536) (off : Int) (A : Option Addr) (len dc : Nat) (f : Nat → UInt8) (hA : bl.BytesIn w (fun b => tag b ≠ 0) A len f) (hlc : len ≤ dc) (hdc : dc ≤ maxLen) :
    Calls Tryz.prog 88 #[Pq st, Pq (pl k).bo, .int .i64 off, .slice A len dc] w (fun e w' => ∃ (p : Nat) (err : Int), e = .returned (.tuple #[.int .i64 (p : Int), .int .i64 err]) ∧ WR (S.ino k).body S.used room off len p err ∧ S.used + (wr (S.ino k).body off p f).n - (S.ino k).body.n ≤ room ∧ (wr (S.ino k).body off p f).Ok ∧
      CB w' P lo st qb qo pl tag ⟨upd S.ino k { S.ino k with body := wr (S.ino k).body off p f }, S.used + (wr (S.ino k).body off p f).n - (S.ino k).body.n⟩ room L T ∧ Stp w w' tag tag) := by
  have s := h.sep hk hf
  have b := (h.ti k hk (by rw [hf]; decide)).b hf
  refine (bl.write_any st (pl k).bo (pl k).bm room S.used len dc _ A off f w ((h.ino k hk (by rw [hf]; decide)).bod hf) h.sto hu hur hr s.1 s.2.1 s.2.2 (fun i hi => ?_) hlc hdc).mono fun e w' ⟨p, err, he, hw, hle, hb⟩ => ?_
  · obtain ⟨x, o, e, h1, h2, h3⟩ := hA i hi
    refine ⟨x, o, e, fun hF => h1 ?_, h2, h3⟩
    rcases hF with rfl | rfl | rfl
    · rw [h.tS]; decide
    · rw [b.1]; omega
    · rw [b.2]; omega
  · have := h.bstep hk hf hb
    exact ⟨p, err, he, hw, hle, hb.b.ok, this.1, this.2⟩
theorem CB.ddel (h : CB w P lo st qb qo pl tag S room L T) {D : Nat} (hk : D ≤ 200) (hD : (S.ino D).kind = 2) (hs : Sorted (S.ino D).dir) (hN : (S.ino D).dir.length ≤ 4000) (s : ByteArray) :
    Calls Tryz.prog 86 #[Pq (pl D).di, .string s] w (fun e w' => e = .returned (getV s (S.ino D).dir) ∧ Nx w w' P lo st qb pl tag ⟨upd S.ino D { S.ino D with dir := ldel s (S.ino D).dir }, S.used⟩ room L T) :=
  (dn.ddel_any _ _ _ _ _ s w ((h.ino D hk (by rw [hD]; decide)).dir hD) hs (by omega)).mono fun _ _ hst => h.dstep hk hD hst
theorem CB.dset (h : CB w P lo st qb qo pl tag S room L T) {D : Nat} (hk : D ≤ 200) (hD : (S.ino D).kind = 2) (hs : Sorted (S.ino D).dir) (hN : (S.ino D).dir.length ≤ 4000) (s : ByteArray) (v : Int) (hm : s.size ≤ 9223372036854775807) :
    Calls Tryz.prog 78 #[Pq (pl D).di, .string s, .int .i64 v] w (fun e w' => e = .returned (.int .i64 (serr s v)) ∧ Nx w w' P lo st qb pl tag ⟨upd S.ino D { S.ino D with dir := lsetE s v (S.ino D).dir }, S.used⟩ room L T) :=
  (dn.set_any _ _ _ _ _ s v w hm ((h.ino D hk (by rw [hD]; decide)).dir hD) (by have := h.plt; omega) hs (by omega)).mono fun _ _ hst => h.dstep hk hD hst
theorem CB.qpush (h : CB w P lo st qb qo pl tag S room L T) (hT : T ≤ 900000) (k m : Int) :
    Calls Tryz.prog 44 #[Pq qb, .int .i64 k, .int .i64 m] w (fun e w' => e = .returned (.tuple #[]) ∧ Nx w w' P lo st qb pl tag S room (ins (k, m) L) (T + 1)) :=
  (qu.lpush qb lo T qo L k m w (by have := h.plt; omega) hT h.q).mono fun _ _ hs => h.qstep hs
theorem CB.qpop (h : CB w P lo st qb qo pl tag S room L T) (hT : T ≤ 900000) :
    Calls Tryz.prog 77 #[Pq qb] w (fun e w' => e = .returned (qu.popV L) ∧ Nx w w' P lo st qb pl tag S room L.tail T) :=
  (qu.lpop qb lo T qo L w hT h.q).mono fun _ _ hs => h.qstep hs

theorem CB.goneS (h : CB w P lo st qb qo pl tag S room L T) (k : Nat) : Stp w (w.setCell ⟨P, 1 + k, none⟩ (.pointer none)) tag tag :=
  ⟨fun _ _ => rfl, rfl, rfl, rfl, by simp [World.setCell], fun j hj hF => Below.heap_setCell _ _ _ _ (fun e => hF (by show tag j ≠ 0; rw [e, h.tP]; decide))⟩
/-- An inode with neither links nor holds goes. -/
def settB (S : BS) (k : Nat) : Bool := decide ((S.ino k).links = 0 ∧ (S.ino k).holds = 0)
def settS (S : BS) (k : Nat) : BS := if settB S k = true then ⟨upd S.ino k Ino.nil, S.used - (S.ino k).body.n⟩ else S
def settL (S : BS) (k : Nat) (L : List KN) : List KN := if settB S k = true then ins (kk k) L else L
def settT (S : BS) (k : Nat) (T : Nat) : Nat := if settB S k = true then T + 1 else T
theorem upd_upd (f : Nat → Ino) (k : Nat) (x y : Ino) : upd (upd f k x) k y = upd f k y := by
  funext j; by_cases e : j = k
  · subst e; rw [upd_same, upd_same]
  · rw [upd_other _ _ e, upd_other _ _ e, upd_other _ _ e]
theorem cut0_n (b : AB) : (cut b 0).n = 0 := by
  unfold cut
  rw [if_pos (by decide)]
  unfold AB.n bl.cutB
  show bl.cnt 4096 _ = 0
  rw [bl.cnt_congr (g := fun _ => false) (fun k => by simp)]
  exact bl.cnt_none _
def RetS (w : World) (P lo st qb : Nat) (pl : Nat → Pl) (tag : Nat → Nat) (v : Value) (S' : BS) (room : Nat) (L' : List KN) (T' : Nat) (e : Ending) (w' : World) : Prop := e = .returned v ∧ Nx w w' P lo st qb pl tag S' room L' T'
/-- Behind the freeing of a file's body: its number goes. -/
theorem settle_end {S' : BS} {k : Nat} {u : Nat} {x : Ino} (h : CB w' P lo st qb qo pl tag ⟨upd S.ino k x, u⟩ room L T) (hs : Stp w w' tag tag) (hk : k ≤ 200) (hT : T ≤ 900000) (e : S' = ⟨upd S.ino k Ino.nil, u⟩) :
    (w'.setCell ⟨P, 1 + k, none⟩ (.pointer none)).cell? ⟨P, 202, none⟩ = some (Pq qb) ∧ w'.frozen? ⟨P, 1 + k, none⟩ = false ∧
    Calls Tryz.prog 44 #[Pq qb, .int .i64 (k : Int), .int .i64 (k : Int)] (w'.setCell ⟨P, 1 + k, none⟩ (.pointer none)) (fun e w2 => e = .returned (.tuple #[]) ∧ Nx w w2 P lo st qb pl tag S' room (ins (kk k) L) (T + 1)) := by
  have hg := h.gone hk
  dsimp only at hg
  rw [upd_upd, ← e] at hg
  exact ⟨hg.cq, h.cf _, (hg.qpush hT _ _).mono fun e w2 ⟨he, hx⟩ => ⟨he, Nx.trans (hs.trans (h.goneS k)) (fun _ _ => rfl) hx⟩⟩
set_option maxRecDepth 100000 in
set_option maxHeartbeats 1000000 in
theorem settle_any (h : CB w P lo st qb qo pl tag S room L T) {k : Nat} (hk : k ≤ 200) (hn : (S.ino k).kind ≠ 0) (hl : 0 ≤ (S.ino k).links) (hh : 0 ≤ (S.ino k).holds) (hnb : (S.ino k).kind ≠ 1 → (S.ino k).body.n = 0) (hu : (S.ino k).body.n ≤ S.used) (hr : S.used ≤ 65536) (hT : T ≤ 900000) :
    Calls Tryz.prog 91 #[Pq P, .int .i64 (k : Int)] w (RetS w P lo st qb pl tag (.tuple #[]) (settS S k) room (settL S k L) (settT S k T)) := by
  unfold RetS
  have hi := h.ino k hk hn
  have c0 := hi.c0
  have c1 := hi.c1
  have c2 := hi.c2
  have p1 := h.ci k hk
  rw [ptV_yes hn] at p1
  by_cases h1 : 0 < (S.ino k).links
  · have hb : settB S k = false := by unfold settB; simp; omega
    have HS := Lib.hid (show settS S k = S ∧ settL S k L = L ∧ settT S k T = T from ⟨if_neg (by rw [hb]; decide), if_neg (by rw [hb]; decide), if_neg (by rw [hb]; decide)⟩)
    have HF := Lib.hid (Nx.of h (Stp.refl w tag))
    rw [HS.out.1, HS.out.2.1, HS.out.2.2]
    generalize (S.ino k).links = K1 at *
    generalize (pl k).nd = N at *
    clear h hi hn hl hh hnb hu hr hT HS hb c0 c2
    go_enter Tryz.func91, Tryz.ntmps91
    go_wp2_with fail
    exact bodyPost_ret (v := .tuple #[]) (by simp [results, Tryz.results91, go_sem]) rfl ⟨rfl, HF.out⟩
  · have e1 : (S.ino k).links = 0 := by omega
    rw [e1] at c1
    by_cases h2 : 0 < (S.ino k).holds
    · have hb : settB S k = false := by unfold settB; simp; omega
      have HS := Lib.hid (show settS S k = S ∧ settL S k L = L ∧ settT S k T = T from ⟨if_neg (by rw [hb]; decide), if_neg (by rw [hb]; decide), if_neg (by rw [hb]; decide)⟩)
      have HF := Lib.hid (Nx.of h (Stp.refl w tag))
      rw [HS.out.1, HS.out.2.1, HS.out.2.2]
      generalize (S.ino k).holds = K2 at *
      generalize (pl k).nd = N at *
      clear h hi hn hl hh hnb hu hr hT HS hb c0 h1 e1
      go_enter Tryz.func91, Tryz.ntmps91
      go_wp2_with fail
      exact bodyPost_ret (v := .tuple #[]) (by simp [results, Tryz.results91, go_sem]) rfl ⟨rfl, HF.out⟩
    · have e2 : (S.ino k).holds = 0 := by omega
      rw [e2] at c2
      have hb : settB S k = true := by unfold settB; simp [e1, e2]
      have HS := Lib.hid (show settS S k = ⟨upd S.ino k Ino.nil, S.used - (S.ino k).body.n⟩ ∧ settL S k L = ins (kk k) L ∧ settT S k T = T + 1 from ⟨if_pos hb, if_pos hb, if_pos hb⟩)
      rw [HS.out.1, HS.out.2.1, HS.out.2.2]
      have pq := h.cq
      have pf := h.cf (1 + k)
      by_cases h3 : (S.ino k).kind = 1
      · have c4 := hi.c4f h3
        have p0 := h.c0
        have hu' : S.used + (cut (S.ino k).body 0).n - (S.ino k).body.n = S.used - (S.ino k).body.n := by rw [cut0_n]; omega
        have HFR := Lib.hid (fun W (hb : Below w.heap.size w W) => (h.below hb).bfree hk h3 hu hr)
        rw [hu'] at HFR
        rw [h3] at c0
        have HK := Lib.hid (fun W (h2 : CB W P lo st qb qo pl tag ⟨upd S.ino k { S.ino k with body := cut (S.ino k).body 0 }, S.used - (S.ino k).body.n⟩ room L T) (hs2 : Stp w W tag tag) => settle_end (S' := ⟨upd S.ino k Ino.nil, S.used - (S.ino k).body.n⟩) h2 hs2 hk hT rfl)
        have HS2 := Lib.hid (fun W (h2 : CB W P lo st qb qo pl tag ⟨upd S.ino k { S.ino k with body := cut (S.ino k).body 0 }, S.used - (S.ino k).body.n⟩ room L T) => (show W.cell? ⟨P, 1 + k, none⟩ = some (Pq (pl k).nd) ∧ W.cell? ⟨(pl k).nd, 4, none⟩ = some (Pq (pl k).bo) from by
          have a1 := h2.ci k hk
          have a2 := h2.ino k hk
          dsimp only at a1 a2
          rw [upd_same] at a1 a2
          exact ⟨a1.trans (congrArg some (ptV_yes (by exact hn))), (a2 (by exact hn)).c4f (by exact h3)⟩))
        generalize (pl k).nd = N at *
        generalize (pl k).bo = M at *
        clear h hi hn hl hh hnb hu hr hT HS hb h1 h2 e1 e2 h3 hu' pf pq
        go_enter Tryz.func91, Tryz.ntmps91
        go_wp2_with fail
        go_region_held3 (fun w' => w'.cell? ⟨P, 0, none⟩ = some (Pq st) ∧ w'.cell? ⟨N, 4, none⟩ = some (Pq M))
          (first | exact ⟨p0, c4⟩ | assumption | go_keep)
          (first
          | (go_at_call 119; ((with_reducible refine (HFR.out _ (Below.refl _ _).drew).mono ?_); rintro e w2 ⟨rfl, h2, hs2⟩; have q0 := h2.c0; obtain ⟨q1, q4⟩ := HS2.out _ h2)))
        all_goals
          obtain ⟨q2, qf, hq⟩ := HK.out _ h2 ((Stp.refl w tag).drew.trans hs2)
          have HQ := Lib.hid hq
          clear h2 hs2 hq q0 q4 p0 c0 c1 c2 c4 p1
          go_wp2_with fail
          refine HQ.out.mono ?_
          rintro e w3 ⟨rfl, hx⟩
          go_wp2_with fail
          go_end0
          exact ⟨rfl, hx⟩
      · have HG := h.gone hk
        have HQ := Lib.hid (HG.qpush hT (k : Int) (k : Int))
        have hst := h.goneS k
        have q0 := HG.cq
        have hbn : S.used = S.used - (S.ino k).body.n := by rw [hnb h3]; omega
        rw [← hbn]
        generalize (pl k).nd = N at *
        generalize (S.ino k).kind = K0 at *
        clear h hi hn hl hh hnb hu hr hT HS hb h1 h2 e1 e2 hbn HG
        go_enter Tryz.func91, Tryz.ntmps91
        go_wp2_with fail
        refine HQ.out.mono ?_
        rintro e w2 ⟨rfl, hx⟩
        go_wp2_with fail
        go_end0
        exact ⟨rfl, Nx.trans hst (fun _ _ => rfl) hx⟩
end
end Go.Proofs.YtlelnpckbcpkkaaGreat.cb
namespace Go.Proofs.YtlelnpckbcpkkaaGreat.cb
open Go.RowKit
open Go.Proofs.YtlelnpckbcpkkaaGreat.qu (KN ins QL)
open Go.Proofs.YtlelnpckbcpkkaaGreat.dn (Du En lget lset ldel getV nerr dotB Sorted RetV serr lsetE)
open Go.Proofs.YtlelnpckbcpkkaaGreat.bl (AB Bod BodC StoC Only Pq cut cutR wr WR)
open Go.Proofs.YtlelnpckbcpkkaaGreat.br
set_option linter.unusedVariables false
set_option linter.unusedSimpArgs false

theorem settS_less (S : BS) (I : Nat) (dl dh : Int) {x : Ino} (hx : x = { S.ino I with links := (S.ino I).links - dl, holds := (S.ino I).holds - dh }) : settS ⟨upd S.ino I x, S.used⟩ I = S.less (I : Int) dl dh := by
  subst hx
  unfold settS settB BS.less
  simp only [at_nat, upd_same, upd_upd]
  by_cases h : (S.ino I).links - dl = 0 ∧ (S.ino I).holds - dh = 0
  · rw [if_pos (decide_eq_true h), if_pos h]; rfl
  · rw [if_neg (by simpa using h), if_neg h]; rfl
theorem settL_free {S : BS} {I : Nat} (h1 : 1 ≤ I) (h2 : I ≤ 200) (hn : (S.ino I).kind ≠ 0) : settL S I (freeL S) = freeL (settS S I) := by
  unfold settL settS
  split
  · refine freeL_push h1 h2 hn ?_ fun k hk => ?_
    · show (upd S.ino I Ino.nil I).kind = 0; rw [upd_same]; rfl
    · show (upd S.ino I Ino.nil k).kind = _; rw [upd_other _ _ hk]
  · rfl
theorem settT_le (S : BS) (k T : Nat) : settT S k T ≤ T + 1 := by unfold settT; split <;> omega
theorem Good_body {S : BS} {room : Nat} (h : br.Good S room) (k : Nat) : (S.ino k).body.n ≤ S.used ∧ ((S.ino k).kind ≠ 1 → (S.ino k).body.n = 0) := by
  refine ⟨?_, fun hk => by rw [h.1.noBody k hk, abE_n]⟩
  by_cases hk : (S.ino k).kind = 1
  · have hn := h.1.num (k := k) (by rw [hk]; decide)
    rw [h.1.used]
    exact sumF_le (f := fun k => (S.ino k).body.n) hn.1 hn.2
  · rw [h.1.noBody k hk, abE_n]; exact Nat.zero_le _
section
variable {w w' : World} {P lo st qb room T : Nat} {qo : Option Nat} {pl : Nat → Pl} {tag : Nat → Nat} {S : BS} {L : List KN}
/-- Behind a call: the state, with the list of its free numbers. -/
def NxF (w w' : World) (P lo st qb : Nat) (pl : Nat → Pl) (tag : Nat → Nat) (S' : BS) (room T : Nat) : Prop := ∃ T', T' ≤ T + 1 ∧ Nx w w' P lo st qb pl tag S' room (freeL S') T'
theorem CB.links (h : CB w P lo st qb qo pl tag S room L T) {k : Nat} (hk : k ≤ 200) (hn : (S.ino k).kind ≠ 0) (v : Int) :
    CB (w.setCell ⟨(pl k).nd, 1, none⟩ (.int .i64 v)) P lo st qb qo pl tag ⟨upd S.ino k { S.ino k with links := v }, S.used⟩ room L T ∧ Stp w (w.setCell ⟨(pl k).nd, 1, none⟩ (.int .i64 v)) tag tag := by
  have hi := h.ino k hk hn
  have eo : ∀ i, i ≠ 1 → (w.setCell ⟨(pl k).nd, 1, none⟩ (.int .i64 v)).cell? ⟨(pl k).nd, i, none⟩ = w.cell? ⟨(pl k).nd, i, none⟩ := fun i hi => World.cell?_setCell_other _ _ _ _ (fun e => hi (by injection e with _ e _; exact e.symm))
  exact h.setf hk hn 1 _ ⟨World.cell?_setCell_same' _ _ _ (by rw [hi.c1]; rfl), (eo 2 (by omega)).trans hi.c2, (eo 3 (by omega)).trans hi.c3, (eo 6 (by omega)).trans hi.c6⟩ (by omega) rfl rfl rfl rfl
theorem CB.holds (h : CB w P lo st qb qo pl tag S room L T) {k : Nat} (hk : k ≤ 200) (hn : (S.ino k).kind ≠ 0) (v : Int) :
    CB (w.setCell ⟨(pl k).nd, 2, none⟩ (.int .i64 v)) P lo st qb qo pl tag ⟨upd S.ino k { S.ino k with holds := v }, S.used⟩ room L T ∧ Stp w (w.setCell ⟨(pl k).nd, 2, none⟩ (.int .i64 v)) tag tag := by
  have hi := h.ino k hk hn
  have eo : ∀ i, i ≠ 2 → (w.setCell ⟨(pl k).nd, 2, none⟩ (.int .i64 v)).cell? ⟨(pl k).nd, i, none⟩ = w.cell? ⟨(pl k).nd, i, none⟩ := fun i hi => World.cell?_setCell_other _ _ _ _ (fun e => hi (by injection e with _ e _; exact e.symm))
  exact h.setf hk hn 2 _ ⟨(eo 1 (by omega)).trans hi.c1, World.cell?_setCell_same' _ _ _ (by rw [hi.c2]; rfl), (eo 3 (by omega)).trans hi.c3, (eo 6 (by omega)).trans hi.c6⟩ (by omega) rfl rfl rfl rfl
theorem CB.marks (h : CB w P lo st qb qo pl tag S room L T) {k : Nat} (hk : k ≤ 200) (hn : (S.ino k).kind ≠ 0) (v : Int) :
    CB (w.setCell ⟨(pl k).nd, 3, none⟩ (.int .i64 v)) P lo st qb qo pl tag ⟨upd S.ino k { S.ino k with marks := v }, S.used⟩ room L T ∧ Stp w (w.setCell ⟨(pl k).nd, 3, none⟩ (.int .i64 v)) tag tag := by
  have hi := h.ino k hk hn
  have eo : ∀ i, i ≠ 3 → (w.setCell ⟨(pl k).nd, 3, none⟩ (.int .i64 v)).cell? ⟨(pl k).nd, i, none⟩ = w.cell? ⟨(pl k).nd, i, none⟩ := fun i hi => World.cell?_setCell_other _ _ _ _ (fun e => hi (by injection e with _ e _; exact e.symm))
  exact h.setf hk hn 3 _ ⟨(eo 1 (by omega)).trans hi.c1, (eo 2 (by omega)).trans hi.c2, World.cell?_setCell_same' _ _ _ (by rw [hi.c3]; rfl), (eo 6 (by omega)).trans hi.c6⟩ (by omega) rfl rfl rfl rfl
theorem CB.parent (h : CB w P lo st qb qo pl tag S room L T) {k : Nat} (hk : k ≤ 200) (hn : (S.ino k).kind ≠ 0) (v : Int) :
    CB (w.setCell ⟨(pl k).nd, 6, none⟩ (.int .i64 v)) P lo st qb qo pl tag ⟨upd S.ino k { S.ino k with parent := v }, S.used⟩ room L T ∧ Stp w (w.setCell ⟨(pl k).nd, 6, none⟩ (.int .i64 v)) tag tag := by
  have hi := h.ino k hk hn
  have eo : ∀ i, i ≠ 6 → (w.setCell ⟨(pl k).nd, 6, none⟩ (.int .i64 v)).cell? ⟨(pl k).nd, i, none⟩ = w.cell? ⟨(pl k).nd, i, none⟩ := fun i hi => World.cell?_setCell_other _ _ _ _ (fun e => hi (by injection e with _ e _; exact e.symm))
  exact h.setf hk hn 6 _ ⟨(eo 1 (by omega)).trans hi.c1, (eo 2 (by omega)).trans hi.c2, (eo 3 (by omega)).trans hi.c3, World.cell?_setCell_same' _ _ _ (by rw [hi.c6]; rfl)⟩ (by omega) rfl rfl rfl rfl
theorem CB.slot (h : CB w P lo st qb qo pl tag S room L T) {k : Nat} (hk : k ≤ 200) (hn : (S.ino k).kind ≠ 0) : w.cell? ⟨P, 1 + k, none⟩ = some (Pq (pl k).nd) := (h.ci k hk).trans (congrArg some (ptV_yes hn))
/-- A name goes from a directory; an inode's links are set. -/
def delD (S : BS) (D : Nat) (s : ByteArray) : BS := ⟨upd S.ino D { S.ino D with dir := ldel s (S.ino D).dir }, S.used⟩
def lnkI (S : BS) (I : Nat) (v : Int) : BS := ⟨upd S.ino I { S.ino I with links := v }, S.used⟩
theorem delD_other {S : BS} {D k : Nat} {s : ByteArray} (h : k ≠ D) : (delD S D s).ino k = S.ino k := upd_other _ _ h
theorem delD_kind (S : BS) (D : Nat) (s : ByteArray) (k : Nat) : ((delD S D s).ino k).kind = (S.ino k).kind := by
  show (upd _ _ _ k).kind = _
  by_cases e : k = D
  · subst e; rw [upd_same]
  · rw [upd_other _ _ e]
theorem lnkI_same (S : BS) (I : Nat) (v : Int) : (lnkI S I v).ino I = { S.ino I with links := v } := upd_same _ _ _
theorem lnkI_kind (S : BS) (I : Nat) (v : Int) (k : Nat) : ((lnkI S I v).ino k).kind = (S.ino k).kind := by
  show (upd _ _ _ k).kind = _
  by_cases e : k = I
  · subst e; rw [upd_same]
  · rw [upd_other _ _ e]
theorem putDir_delD (S : BS) (D : Nat) (s : ByteArray) : S.putDir (D : Int) (ldel s (S.at (D : Int)).dir) = delD S D s := by unfold BS.putDir BS.put delD; rw [at_nat, Int.toNat_natCast]
theorem drop_eq {S : BS} {D I : Nat} (s : ByteArray) (hne : I ≠ D) : settS (lnkI (delD S D s) I ((S.ino I).links - 1)) I = S.drop (D : Int) s (I : Int) := by
  unfold BS.drop
  rw [putDir_delD]
  exact settS_less (delD S D s) I 1 0 (by rw [delD_other hne, Int.sub_zero])
/-- Behind the name's going from its directory: the inode's links are one less, and it is settled. -/
theorem unname_mid {w1 : World} {qo1 : Option Nat} {pl1 : Nat → Pl} {tag1 : Nat → Nat} {D I : Nat} {s : ByteArray} (hG : br.Good S room) (hr : room ≤ 65536) (hT : T ≤ 900000) (i1 : 1 ≤ I) (i2 : I ≤ 200) (hne : I ≠ D) (hn : (S.ino I).kind ≠ 0) (hl : 1 ≤ (S.ino I).links)
    (h1 : CB w1 P lo st qb qo1 pl1 tag1 (delD S D s) room (freeL S) T) (hs : Stp w w1 tag tag1) (hp : ∀ j, ((delD S D s).ino j).kind ≠ 0 → (pl1 j).nd = (pl j).nd) :
    w1.cell? ⟨P, 1 + I, none⟩ = some (Pq (pl I).nd) ∧ w1.cell? ⟨(pl I).nd, 1, none⟩ = some (.int .i64 (S.ino I).links) ∧ w1.frozen? ⟨(pl I).nd, 1, none⟩ = false ∧
    Calls Tryz.prog 91 #[Pq P, .int .i64 (I : Int)] (w1.setCell ⟨(pl I).nd, 1, none⟩ (.int .i64 ((S.ino I).links - 1))) (fun e w2 => e = .returned (.tuple #[]) ∧ NxF w w2 P lo st qb pl tag (S.drop (D : Int) s (I : Int)) room T) := by
  have hk1 := fun j => delD_kind S D s j
  have hn1 : ((delD S D s).ino I).kind ≠ 0 := by rw [hk1]; exact hn
  have hp' := hp I hn1
  have hi := h1.ino I i2 hn1
  have hb := Good_body hG I
  have hu : S.used ≤ 65536 := Nat.le_trans hG.1.room hr
  obtain ⟨h2, hs2⟩ : CB (w1.setCell ⟨(pl1 I).nd, 1, none⟩ (.int .i64 ((S.ino I).links - 1))) P lo st qb qo1 pl1 tag1 (lnkI (delD S D s) I ((S.ino I).links - 1)) room (freeL S) T ∧ Stp w1 (w1.setCell ⟨(pl1 I).nd, 1, none⟩ (.int .i64 ((S.ino I).links - 1))) tag1 tag1 := h1.links i2 hn1 _
  have ec1 := hi.c1
  have ef1 := hi.f 1
  have es := h1.slot i2 hn1
  rw [delD_other hne] at ec1
  rw [hp'] at ec1 ef1 es h2 hs2
  refine ⟨es, ec1, ef1, ?_⟩
  have eS := drop_eq (S := S) s hne
  have e2 := lnkI_same (delD S D s) I ((S.ino I).links - 1)
  rw [delD_other hne] at e2
  have hk2 := fun j => (lnkI_kind (delD S D s) I ((S.ino I).links - 1) j).trans (hk1 j)
  have eu : (lnkI (delD S D s) I ((S.ino I).links - 1)).used = S.used := rfl
  generalize lnkI (delD S D s) I ((S.ino I).links - 1) = S2 at *
  have hx := settle_any h2 (k := I) i2 (by rw [hk2]; exact hn) (by rw [e2]; dsimp only; omega) (by rw [e2]; exact (hG.1.nums I).2) (by rw [e2]; exact hb.2) (by rw [e2, eu]; exact hb.1) (by rw [eu]; exact hu) hT
  rw [← freeL_same hk2, settL_free i1 i2 (by rw [hk2]; exact hn), eS] at hx
  exact hx.mono fun e w2 ⟨he, hx⟩ => ⟨he, settT S2 I T, settT_le _ _ _, Nx.trans (hs.trans hs2) (fun j hj => hp j (by rw [hk1, ← ((drop_drop s hne).keep j hj).1]; exact hj)) hx⟩
set_option maxRecDepth 100000 in
set_option maxHeartbeats 1000000 in
theorem unname_any (h : CB w P lo st qb qo pl tag S room (freeL S) T) (hG : br.Good S room) (hr : room ≤ 65536) (hT : T ≤ 900000) {D I : Nat} {s : ByteArray} (hg : lget s (S.ino D).dir = some (I : Int)) :
    Calls Tryz.prog 80 #[Pq P, Pq (pl D).nd, .string s, .int .i64 (I : Int)] w (fun e w2 => e = .returned (.tuple #[]) ∧ NxF w w2 P lo st qb pl tag (S.drop (D : Int) s (I : Int)) room T) := by
  obtain ⟨hD, hDn, I', hI, i1, i2, _, hl, hn⟩ := hG.1.lead hg
  obtain rfl : I = I' := by omega
  have hne : I ≠ D := fun e => hG.1.own hG.2 (D := D) (s := s) (by rw [hg, e])
  have c5 := (h.ino D hDn.2 (by rw [hD]; decide)).c5d hD
  have HD := Lib.hid (show Calls Tryz.prog 86 #[Pq (pl D).di, .string s] w (fun e w' => e = .returned (getV s (S.ino D).dir) ∧ Nx w w' P lo st qb pl tag (delD S D s) room (freeL S) T) from h.ddel hDn.2 hD (hG.1.sorted D) (hG.1.dirLen D) s)
  have HM := Lib.hid (fun w1 qo1 pl1 tag1 (h1 : CB w1 P lo st qb qo1 pl1 tag1 (delD S D s) room (freeL S) T) hs hp => unname_mid (w := w) (tag := tag) (pl := pl) hG hr hT i1 i2 hne hn hl h1 hs hp)
  have ht := hG.1.twenty I
  generalize (pl I).nd = N at *
  generalize (S.ino I).links = K at *
  generalize (pl D).nd = M at *
  generalize (pl D).di = C at *
  generalize getV s (S.ino D).dir = v at *
  clear h hG hg hD hn hDn hI
  go_enter Tryz.func80, Tryz.ntmps80
  go_wp2_with fail
  refine HD.out.mono ?_
  rintro e w1 ⟨rfl, qo1, pl1, tag1, h1, hs1, hp1⟩
  obtain ⟨a1, a2, a3, a4⟩ := HM.out w1 qo1 pl1 tag1 h1 hs1 hp1
  have HS := Lib.hid a4
  clear a4 h1 hs1 hp1 HM HD c5
  go_wp2_with fail
  refine HS.out.mono ?_
  rintro e w2 ⟨rfl, hx⟩
  go_wp2_with fail
  go_end0
  exact ⟨rfl, hx⟩
end
end Go.Proofs.YtlelnpckbcpkkaaGreat.cb
namespace Go.Proofs.YtlelnpckbcpkkaaGreat.cb
open Go.RowKit
open Go.Proofs.YtlelnpckbcpkkaaGreat.qu (KN ins QL)
open Go.Proofs.YtlelnpckbcpkkaaGreat.dn (Du En lget lset ldel getV nerr dotB Sorted RetV serr lsetE)
open Go.Proofs.YtlelnpckbcpkkaaGreat.bl (AB Bod BodC StoC Only Pq cut cutR wr WR)
open Go.Proofs.YtlelnpckbcpkkaaGreat.br
set_option linter.unusedVariables false
set_option linter.unusedSimpArgs false

section
variable {w w' : World} {P lo st qb room T : Nat} {qo : Option Nat} {pl : Nat → Pl} {tag : Nat → Nat} {S : BS} {L : List KN}
theorem CB.nxf (h : CB w P lo st qb qo pl tag S room (freeL S) T) (hb : Below w.heap.size w w') : NxF w w' P lo st qb pl tag S room T := ⟨T, Nat.le_succ T, Nx.of (h.below hb) (Stp.below hb)⟩
/-- What is done behind other looks. -/
theorem NxF.past {w0 : World} {S' : BS} (hb : Below w0.heap.size w0 w) (h : NxF w w' P lo st qb pl tag S' room T) : NxF w0 w' P lo st qb pl tag S' room T := by
  obtain ⟨T', h1, h2⟩ := h
  exact ⟨T', h1, Nx.trans (Stp.below hb) (fun _ _ => rfl) h2⟩
def RetF (w : World) (P lo st qb : Nat) (pl : Nat → Pl) (tag : Nat → Nat) (v : Value) (S' : BS) (room T : Nat) (e : Ending) (w' : World) : Prop := e = .returned v ∧ NxF w w' P lo st qb pl tag S' room T
theorem get_lead {S : BS} {D : Nat} (h1 : S.dirE (D : Int) true = 0) (s : ByteArray) : (lget s (S.ino D).dir = none ∧ S.get (D : Int) s = (0, 2)) ∨ ∃ v, lget s (S.ino D).dir = some v ∧ S.get (D : Int) s = (v, 0) := by
  rw [get_eq (dirE_less h1)]
  cases lget s (S.ino D).dir with
  | none => exact .inl ⟨rfl, rfl⟩
  | some v => exact .inr ⟨v, rfl, rfl⟩
set_option maxRecDepth 100000 in
set_option maxHeartbeats 1000000 in
theorem unlink_any (h : CB w P lo st qb qo pl tag S room (freeL S) T) (hG : br.Good S room) (hr : room ≤ 65536) (hT : T ≤ 900000) (d : Int) (s : ByteArray) :
    Calls Tryz.prog 30 #[Pq P, .int .i64 d, .string s] w (RetF w P lo st qb pl tag (.int .i64 (S.unlink d s).1) (S.unlink d s).2 room T) := by
  have HN := Lib.hid (named_any h hG d s)
  unfold RetW at HN
  unfold RetF
  have HF := Lib.hid (fun w2 hb => h.nxf (w' := w2) hb)
  by_cases h1 : S.dirE d true = 0
  · obtain ⟨D, rfl, d1, d2, hD, hl⟩ := dirE_ok h1
    rcases get_lead h1 s with ⟨g1, g2⟩ | ⟨v, g1, g2⟩
    · have hv := Lib.hid (show S.unlink (D : Int) s = (2, S) by unfold BS.unlink; rw [if_neg (by omega), if_pos (by rw [g2]; decide), g2])
      have hn : namV S pl (D : Int) s = .tuple #[Pq (pl D).nd, .int .i64 0, .int .i64 2] := by unfold namV; rw [if_neg (by omega), g2]; rfl
      rw [hn] at HN
      rw [hv.out]
      generalize (pl D).nd = N at *
      clear h hG g1 g2 hn hv h1
      go_enter Tryz.func30, Tryz.ntmps30
      go_wp2_with fail
      refine HN.out.mono ?_
      rintro e w2 ⟨rfl, hb⟩
      go_wp2_with fail
      go_ret
      exact ⟨rfl, HF.out _ hb⟩
    · have hn : namV S pl (D : Int) s = .tuple #[Pq (pl D).nd, .int .i64 v, .int .i64 0] := by unfold namV; rw [if_neg (by omega), g2]; rfl
      rw [hn] at HN
      obtain ⟨_, _, I, rfl, i1, i2, _, hli, hni⟩ := hG.1.lead g1
      have HC := Lib.hid (fun w2 (hb : Below w.heap.size w w2) => (h.below hb).slot i2 hni)
      have HK := Lib.hid (fun w2 (hb : Below w.heap.size w w2) => ((h.below hb).ino I i2 hni).c0)
      by_cases hk : (S.ino I).kind = 2
      · have hv := Lib.hid (show S.unlink (D : Int) s = (21, S) by unfold BS.unlink; rw [if_neg (by omega), g2, if_neg (by simp), if_pos (by rw [at_nat]; exact hk)])
        rw [hv.out]
        rw [hk] at HK
        generalize (pl D).nd = N at *
        generalize (pl I).nd = M at *
        clear h hG g1 g2 hn hv h1
        go_enter Tryz.func30, Tryz.ntmps30
        go_wp2_with fail
        refine HN.out.mono ?_
        rintro e w2 ⟨rfl, hb⟩
        have c0 := HC.out _ hb
        have c1 := HK.out _ hb
        clear HC HK
        go_wp2_with fail
        go_ret
        exact ⟨rfl, HF.out _ hb⟩
      · have hv := Lib.hid (show S.unlink (D : Int) s = (0, S.drop (D : Int) s (I : Int)) by unfold BS.unlink; rw [if_neg (by omega), g2, if_neg (by simp), if_neg (by rw [at_nat]; exact hk)])
        rw [hv.out]
        have HU := Lib.hid (fun w2 (hb : Below w.heap.size w w2) => unname_any (h.below hb) hG hr hT g1)
        generalize (pl D).nd = N at *
        generalize (pl I).nd = M at *
        generalize (S.ino I).kind = K at *
        have hk2 : (K == 2) = false := by simpa using hk
        clear h hG g1 g2 hn hv h1 HF
        go_enter Tryz.func30, Tryz.ntmps30
        go_wp2_with fail
        refine HN.out.mono ?_
        rintro e w2 ⟨rfl, hb⟩
        have c0 := HC.out _ hb
        have c1 := HK.out _ hb
        have HU2 := Lib.hid (HU.out _ hb)
        have HB := Lib.hid hb
        clear HC HK HU hb
        go_wp2_with fail
        refine HU2.out.mono ?_
        rintro e w3 ⟨rfl, hx⟩
        go_wp2_with fail
        go_ret
        exact ⟨rfl, hx.past HB.out⟩
  · have hv := Lib.hid (show S.unlink d s = (S.dirE d true, S) by unfold BS.unlink; rw [if_pos h1])
    have hn : namV S pl d s = .tuple #[.pointer none, .int .i64 0, .int .i64 (S.dirE d true)] := by unfold namV; rw [if_pos h1]
    rw [hn] at HN
    rw [hv.out]
    generalize S.dirE d true = x at *
    have hx : (x != 0) = true := by simpa using h1
    clear h hG hn hv h1
    go_enter Tryz.func30, Tryz.ntmps30
    go_wp2_with fail
    refine HN.out.mono ?_
    rintro e w2 ⟨rfl, hb⟩
    go_wp2_with fail
    go_ret
    exact ⟨rfl, HF.out _ hb⟩
set_option maxRecDepth 100000 in
set_option maxHeartbeats 1000000 in
theorem rmdir_any (h : CB w P lo st qb qo pl tag S room (freeL S) T) (hG : br.Good S room) (hr : room ≤ 65536) (hT : T ≤ 900000) (d : Int) (s : ByteArray) :
    Calls Tryz.prog 31 #[Pq P, .int .i64 d, .string s] w (RetF w P lo st qb pl tag (.int .i64 (S.rmdir d s).1) (S.rmdir d s).2 room T) := by
  have HN := Lib.hid (named_any h hG d s)
  unfold RetW at HN
  unfold RetF
  have HF := Lib.hid (fun w2 hb => h.nxf (w' := w2) hb)
  by_cases h1 : S.dirE d true = 0
  · obtain ⟨D, rfl, d1, d2, hD, hl⟩ := dirE_ok h1
    rcases get_lead h1 s with ⟨g1, g2⟩ | ⟨v, g1, g2⟩
    · have hv := Lib.hid (show S.rmdir (D : Int) s = (2, S) by unfold BS.rmdir; rw [if_neg (by omega), if_pos (by rw [g2]; decide), g2])
      have hn : namV S pl (D : Int) s = .tuple #[Pq (pl D).nd, .int .i64 0, .int .i64 2] := by unfold namV; rw [if_neg (by omega), g2]; rfl
      rw [hn] at HN
      rw [hv.out]
      generalize (pl D).nd = N at *
      clear h hG g1 g2 hn hv h1
      go_enter Tryz.func31, Tryz.ntmps31
      go_wp2_with fail
      refine HN.out.mono ?_
      rintro e w2 ⟨rfl, hb⟩
      go_wp2_with fail
      go_ret
      exact ⟨rfl, HF.out _ hb⟩
    · have hn : namV S pl (D : Int) s = .tuple #[Pq (pl D).nd, .int .i64 v, .int .i64 0] := by unfold namV; rw [if_neg (by omega), g2]; rfl
      rw [hn] at HN
      obtain ⟨_, _, I, rfl, i1, i2, _, hli, hni⟩ := hG.1.lead g1
      have HC := Lib.hid (fun w2 (hb : Below w.heap.size w w2) => (h.below hb).slot i2 hni)
      have HK := Lib.hid (fun w2 (hb : Below w.heap.size w w2) => ((h.below hb).ino I i2 hni).c0)
      by_cases hk : (S.ino I).kind = 2
      · have HL := Lib.hid (fun w2 (hb : Below w.heap.size w w2) => (h.below hb).len hG hk)
        have H5 := Lib.hid (fun w2 (hb : Below w.heap.size w w2) => ((h.below hb).ino I i2 hni).c5d hk)
        rw [hk] at HK
        by_cases he : (S.ino I).dir = []
        · have hv := Lib.hid (show S.rmdir (D : Int) s = (0, S.drop (D : Int) s (I : Int)) by unfold BS.rmdir; rw [if_neg (by omega), g2, if_neg (by simp), if_neg (by rw [at_nat]; simpa using hk), if_neg (by rw [at_nat]; simpa using he)])
          rw [hv.out]
          have HU := Lib.hid (fun w2 (hb : Below w.heap.size w w2) => unname_any (h.below hb) hG hr hT g1)
          rw [he] at HL
          generalize (pl D).nd = N at *
          generalize (pl I).nd = M at *
          generalize (pl I).di = C at *
          clear h hG g1 g2 hn hv h1 HF
          go_enter Tryz.func31, Tryz.ntmps31
          go_wp2_with fail
          refine HN.out.mono ?_
          rintro e w2 ⟨rfl, hb⟩
          have c0 := HC.out _ hb
          have c1 := HK.out _ hb
          have c5 := H5.out _ hb
          have HL2 := Lib.hid (HL.out _ hb)
          have HU2 := Lib.hid (HU.out _ hb)
          have HB := Lib.hid hb
          clear HC HK HU hb H5 HL
          go_wp2_with fail
          refine HL2.out.mono ?_
          rintro e w3 ⟨rfl, rfl⟩
          go_wp2_with fail
          refine HU2.out.mono ?_
          rintro e w3 ⟨rfl, hx⟩
          go_wp2_with fail
          go_ret
          exact ⟨rfl, hx.past HB.out⟩
        · have hv := Lib.hid (show S.rmdir (D : Int) s = (39, S) by unfold BS.rmdir; rw [if_neg (by omega), g2, if_neg (by simp), if_neg (by rw [at_nat]; simpa using hk), if_pos (by rw [at_nat]; exact he)])
          rw [hv.out]
          have hlen : 0 < (S.ino I).dir.length := List.length_pos_iff.2 he
          generalize (pl D).nd = N at *
          generalize (pl I).nd = M at *
          generalize (pl I).di = C at *
          generalize (S.ino I).dir.length = K at *
          clear h hG g1 g2 hn hv h1
          go_enter Tryz.func31, Tryz.ntmps31
          go_wp2_with fail
          refine HN.out.mono ?_
          rintro e w2 ⟨rfl, hb⟩
          have c0 := HC.out _ hb
          have c1 := HK.out _ hb
          have c5 := H5.out _ hb
          have HL2 := Lib.hid (HL.out _ hb)
          clear HC HK H5 HL
          go_wp2_with fail
          refine HL2.out.mono ?_
          rintro e w3 ⟨rfl, rfl⟩
          go_wp2_with fail
          go_ret
          exact ⟨rfl, HF.out _ hb⟩
      · have hv := Lib.hid (show S.rmdir (D : Int) s = (20, S) by unfold BS.rmdir; rw [if_neg (by omega), g2, if_neg (by simp), if_pos (by rw [at_nat]; exact hk)])
        rw [hv.out]
        generalize (pl D).nd = N at *
        generalize (pl I).nd = M at *
        generalize (S.ino I).kind = K at *
        have hk2 : (K != 2) = true := by simpa using hk
        clear h hG g1 g2 hn hv h1
        go_enter Tryz.func31, Tryz.ntmps31
        go_wp2_with fail
        refine HN.out.mono ?_
        rintro e w2 ⟨rfl, hb⟩
        have c0 := HC.out _ hb
        have c1 := HK.out _ hb
        clear HC HK
        go_wp2_with fail
        go_ret
        exact ⟨rfl, HF.out _ hb⟩
  · have hv := Lib.hid (show S.rmdir d s = (S.dirE d true, S) by unfold BS.rmdir; rw [if_pos h1])
    have hn : namV S pl d s = .tuple #[.pointer none, .int .i64 0, .int .i64 (S.dirE d true)] := by unfold namV; rw [if_pos h1]
    rw [hn] at HN
    rw [hv.out]
    generalize S.dirE d true = x at *
    have hx : (x != 0) = true := by simpa using h1
    clear h hG hn hv h1
    go_enter Tryz.func31, Tryz.ntmps31
    go_wp2_with fail
    refine HN.out.mono ?_
    rintro e w2 ⟨rfl, hb⟩
    go_wp2_with fail
    go_ret
    exact ⟨rfl, HF.out _ hb⟩
end
end Go.Proofs.YtlelnpckbcpkkaaGreat.cb
namespace Go.Proofs.YtlelnpckbcpkkaaGreat.cb
open Go.RowKit
open Go.Proofs.YtlelnpckbcpkkaaGreat.qu (KN ins QL)
open Go.Proofs.YtlelnpckbcpkkaaGreat.dn (Du En lget lset ldel getV nerr dotB Sorted RetV serr lsetE)
open Go.Proofs.YtlelnpckbcpkkaaGreat.bl (AB Bod BodC StoC Only Pq cut cutR wr WR)
open Go.Proofs.YtlelnpckbcpkkaaGreat.br
set_option linter.unusedVariables false
set_option linter.unusedSimpArgs false

def newI (k par : Int) (t : ByteArray) : Ino := ⟨k, 1, 0, 0, if k = 2 then par else 0, abE, [], t⟩
def BlankE (w : World) (st lo : Nat) (x : Ino) (e : Ending) (w' : World) : Prop :=
  ∃ p : Pl, e = .returned (Pq p.nd) ∧ Below w.heap.size w w' ∧ InoC w' st lo p x ∧ w.heap.size ≤ p.nd ∧ (x.kind = 1 → w.heap.size ≤ p.bo ∧ w.heap.size ≤ p.bm ∧ p.bo ≠ p.nd ∧ p.bm ≠ p.nd ∧ p.bo ≠ p.bm) ∧ (x.kind = 2 → w.heap.size ≤ p.di ∧ p.di ≠ p.nd ∧ p.dr = none)
/-- A body without chunks. -/
theorem newBody (st : Nat) (w : World) : Calls Tryz.prog 92 #[Pq st] w (fun e w' => ∃ B M, e = .returned (Pq B) ∧ Bod w' st B M abE ∧ Below w.heap.size w w' ∧ w.heap.size ≤ B ∧ w.heap.size ≤ M ∧ B ≠ M) := by
  refine (bl.body_any st w).mono ?_
  rintro e w' ⟨rfl, rfl⟩
  have hb1 := bl.below_one w (.map #[] 0)
  have hb2 := bl.below_one (w.alloc (.map #[] 0)) (.cells #[Pq st, .int .i64 0, .map (some w.heap.size)] 159)
  have hs1 : (w.alloc (.map #[] 0)).heap.size = w.heap.size + 1 := by simp
  refine ⟨w.heap.size + 1, w.heap.size, rfl, bl.Bod.of (N := 0) ⟨?_, ?_, ?_, ?_⟩ ((bl.MapAt.made w).of_block (hb2.block _ (by simp))) ⟨Nat.zero_le _, (fun _ h => nomatch h), fun _ _ => rfl⟩, dn.below_step hb1 hb2, by omega, by omega, by omega⟩
  all_goals rw [← hs1]
  all_goals simp
  rfl
abbrev box8 (k : Int) (t : ByteArray) : Obj := .cells #[.int .i64 k, .int .i64 1, .int .i64 0, .int .i64 0, .pointer none, .pointer none, .int .i64 0, .string t] 99
theorem box8_cells (w : World) (k : Int) (t : ByteArray) : ((w.alloc (box8 k t)).cell? ⟨w.heap.size, 0, none⟩ = some (.int .i64 k) ∧ (w.alloc (box8 k t)).cell? ⟨w.heap.size, 1, none⟩ = some (.int .i64 1) ∧ (w.alloc (box8 k t)).cell? ⟨w.heap.size, 2, none⟩ = some (.int .i64 0) ∧ (w.alloc (box8 k t)).cell? ⟨w.heap.size, 3, none⟩ = some (.int .i64 0) ∧
    (w.alloc (box8 k t)).cell? ⟨w.heap.size, 4, none⟩ = some (.pointer none) ∧ (w.alloc (box8 k t)).cell? ⟨w.heap.size, 5, none⟩ = some (.pointer none) ∧ (w.alloc (box8 k t)).cell? ⟨w.heap.size, 6, none⟩ = some (.int .i64 0) ∧ (w.alloc (box8 k t)).cell? ⟨w.heap.size, 7, none⟩ = some (.string t)) ∧ ∀ j, (w.alloc (box8 k t)).frozen? ⟨w.heap.size, j, none⟩ = false := by
  simp
set_option maxRecDepth 100000 in
set_option maxHeartbeats 1000000 in
theorem blank_any (P st lo : Nat) (w : World) (hP : w.cell? ⟨P, 0, none⟩ = some (Pq st)) (hPl : P < w.heap.size) (hlo : lo ≤ w.heap.size) (k par : Int) (t : ByteArray) : Calls Tryz.prog 43 #[Pq P, .int .i64 k, .int .i64 par, .string t] w (BlankE w st lo (newI k par t)) := by
  have h8 := box8_cells w k t
  have HB := Lib.hid (dn.below_alloc w (box8 k t))
  have hz : (w.alloc (box8 k t)).heap.size = w.heap.size + 1 := World.size_alloc _ _
  by_cases h1 : k = 1
  · subst h1
    have hp := (HB.out.cell (p := ⟨P, 0, none⟩) hPl).trans hP
    have HC := Lib.hid (newBody st (w.alloc (box8 1 t)))
    have HE := Lib.hid (show ∀ w2 B M, Bod w2 st B M abE → Below (w.alloc (box8 1 t)).heap.size (w.alloc (box8 1 t)) w2 → (w.alloc (box8 1 t)).heap.size ≤ B → (w.alloc (box8 1 t)).heap.size ≤ M → B ≠ M →
        w2.cell? ⟨w.heap.size, 4, none⟩ = some (.pointer none) ∧ w2.frozen? ⟨w.heap.size, 4, none⟩ = false ∧ BlankE w st lo (newI 1 par t) (.returned (Pq w.heap.size)) (w2.setCell ⟨w.heap.size, 4, none⟩ (Pq B)) from fun w2 B M hb hw hB hM hBM => by
      rw [hz] at hw hB hM
      have c : ∀ j, w2.cell? ⟨w.heap.size, j, none⟩ = (w.alloc (box8 1 t)).cell? ⟨w.heap.size, j, none⟩ := fun j => hw.cell (p := ⟨w.heap.size, j, none⟩) (by show w.heap.size < _; omega)
      have f : ∀ j, w2.frozen? ⟨w.heap.size, j, none⟩ = false := fun j => (hw.frozen (p := ⟨w.heap.size, j, none⟩) (by show w.heap.size < _; omega)).trans (h8.2 j)
      have eo : ∀ i, i ≠ 4 → (w2.setCell ⟨w.heap.size, 4, none⟩ (Pq B)).cell? ⟨w.heap.size, i, none⟩ = (w.alloc (box8 1 t)).cell? ⟨w.heap.size, i, none⟩ := fun i hi => (World.cell?_setCell_other _ _ _ _ (fun e => hi (by injection e with _ e _; exact e.symm))).trans (c i)
      refine ⟨(c 4).trans h8.1.2.2.2.2.1, f 4, ⟨w.heap.size, B, M, 0, none, 0⟩, rfl, (HB.out.trans (hw.mono (Nat.le_succ _))).setCell (Nat.le_refl _) _, ?_, Nat.le_refl _, fun _ => ⟨by show w.heap.size ≤ B; omega, by show w.heap.size ≤ M; omega, by show B ≠ w.heap.size; omega, by show M ≠ w.heap.size; omega, hBM⟩, fun e => by cases e⟩
      refine ⟨(eo 0 (by omega)).trans h8.1.1, (eo 1 (by omega)).trans h8.1.2.1, (eo 2 (by omega)).trans h8.1.2.2.1, (eo 3 (by omega)).trans h8.1.2.2.2.1, World.cell?_setCell_same' _ _ _ (by rw [c 4, h8.1.2.2.2.2.1]; rfl), (eo 5 (by omega)).trans h8.1.2.2.2.2.2.1, (eo 6 (by omega)).trans h8.1.2.2.2.2.2.2.1, (eo 7 (by omega)).trans h8.1.2.2.2.2.2.2.2, fun j => by rw [World.frozen?_setCell]; exact f j, fun _ => ?_, fun e => by cases e⟩
      exact hb.keep (Below.heap_setCell _ _ _ _ (by show B ≠ w.heap.size; omega)) (Below.heap_setCell _ _ _ _ (by show M ≠ w.heap.size; omega)))
    generalize newI 1 par t = x at *
    clear h8 hP hPl hlo
    go_enter Tryz.func43, Tryz.ntmps43
    go_wp2_with fail
    refine HC.out.mono ?_
    rintro e w2 ⟨B, M, rfl, a1, a2, a3, a4, a5⟩
    obtain ⟨q1, q2, q3⟩ := HE.out w2 B M a1 a2 a3 a4 a5
    clear a1 a2 a3 a4 a5 hp
    go_wp2_with fail
    go_ret
    exact q3
  · by_cases h2 : k = 2
    · subst h2
      have HC := Lib.hid (dn.new_any (w.alloc (box8 2 t)) lo (by rw [hz]; omega))
      have HE := Lib.hid (show ∀ w2, Du w2 (w.alloc (box8 2 t)).heap.size lo none 0 [] → Below (w.alloc (box8 2 t)).heap.size (w.alloc (box8 2 t)) w2 →
          w2.cell? ⟨w.heap.size, 5, none⟩ = some (.pointer none) ∧ w2.cell? ⟨w.heap.size, 6, none⟩ = some (.int .i64 0) ∧ w2.frozen? ⟨w.heap.size, 5, none⟩ = false ∧ w2.frozen? ⟨w.heap.size, 6, none⟩ = false ∧
          BlankE w st lo (newI 2 par t) (.returned (Pq w.heap.size)) ((w2.setCell ⟨w.heap.size, 5, none⟩ (Pq (w.alloc (box8 2 t)).heap.size)).setCell ⟨w.heap.size, 6, none⟩ (.int .i64 par)) from fun w2 hb hw => by
        rw [hz] at hw hb ⊢
        have c : ∀ j, w2.cell? ⟨w.heap.size, j, none⟩ = (w.alloc (box8 2 t)).cell? ⟨w.heap.size, j, none⟩ := fun j => hw.cell (p := ⟨w.heap.size, j, none⟩) (by show w.heap.size < _; omega)
        have f : ∀ j, w2.frozen? ⟨w.heap.size, j, none⟩ = false := fun j => (hw.frozen (p := ⟨w.heap.size, j, none⟩) (by show w.heap.size < _; omega)).trans (h8.2 j)
        have e1 : ∀ i, i ≠ 5 → (w2.setCell ⟨w.heap.size, 5, none⟩ (Pq (w.heap.size + 1))).cell? ⟨w.heap.size, i, none⟩ = (w.alloc (box8 2 t)).cell? ⟨w.heap.size, i, none⟩ := fun i hi => (World.cell?_setCell_other _ _ _ _ (fun e => hi (by injection e with _ e _; exact e.symm))).trans (c i)
        have e5 : (w2.setCell ⟨w.heap.size, 5, none⟩ (Pq (w.heap.size + 1))).cell? ⟨w.heap.size, 5, none⟩ = some (Pq (w.heap.size + 1)) := World.cell?_setCell_same' _ _ _ (by rw [c 5, h8.1.2.2.2.2.2.1]; rfl)
        have e6 := (e1 6 (by omega)).trans h8.1.2.2.2.2.2.2.1
        generalize hw3 : w2.setCell ⟨w.heap.size, 5, none⟩ (Pq (w.heap.size + 1)) = w3 at *
        have eo : ∀ i, i ≠ 6 → (w3.setCell ⟨w.heap.size, 6, none⟩ (.int .i64 par)).cell? ⟨w.heap.size, i, none⟩ = w3.cell? ⟨w.heap.size, i, none⟩ := fun i hi => World.cell?_setCell_other _ _ _ _ (fun e => hi (by injection e with _ e _; exact e.symm))
        have hb3 : Below w.heap.size w w3 := by rw [← hw3]; exact (HB.out.trans (hw.mono (Nat.le_succ _))).setCell (Nat.le_refl _) _
        refine ⟨(c 5).trans h8.1.2.2.2.2.2.1, (c 6).trans h8.1.2.2.2.2.2.2.1, f 5, f 6, ⟨w.heap.size, 0, 0, w.heap.size + 1, none, 0⟩, rfl, hb3.setCell (Nat.le_refl _) _, ?_, Nat.le_refl _, fun e => (by cases e), fun _ => ⟨by show w.heap.size ≤ w.heap.size + 1; omega, by show w.heap.size + 1 ≠ w.heap.size; omega, rfl⟩⟩
        refine ⟨(eo 0 (by omega)).trans ((e1 0 (by omega)).trans h8.1.1), (eo 1 (by omega)).trans ((e1 1 (by omega)).trans h8.1.2.1), (eo 2 (by omega)).trans ((e1 2 (by omega)).trans h8.1.2.2.1), (eo 3 (by omega)).trans ((e1 3 (by omega)).trans h8.1.2.2.2.1), (eo 4 (by omega)).trans ((e1 4 (by omega)).trans h8.1.2.2.2.2.1), (eo 5 (by omega)).trans e5,
          World.cell?_setCell_same' _ _ _ (by rw [e6]; rfl), (eo 7 (by omega)).trans ((e1 7 (by omega)).trans h8.1.2.2.2.2.2.2.2), fun j => by rw [World.frozen?_setCell, ← hw3, World.frozen?_setCell]; exact f j, fun e => (by cases e), fun _ => ?_⟩
        exact hb.of_blocks ((Below.heap_setCell _ _ _ _ (by show w.heap.size + 1 ≠ w.heap.size; omega)).trans (by rw [← hw3]; exact Below.heap_setCell _ _ _ _ (by show w.heap.size + 1 ≠ w.heap.size; omega))) (fun G e => by cases e))
      generalize newI 2 par t = x at *
      clear h8 hP hPl hlo
      go_enter Tryz.func43, Tryz.ntmps43
      go_wp2_with fail
      refine HC.out.mono ?_
      rintro e w2 ⟨rfl, a1, a2⟩
      obtain ⟨q1, q2, q3, q4, q5⟩ := HE.out w2 a1 a2
      clear a1 a2
      go_wp2_with fail
      go_ret
      rw [hz] at q5
      exact q5
    · have HE := Lib.hid (show BlankE w st lo (newI k par t) (.returned (Pq w.heap.size)) (w.alloc (box8 k t)) from by
        have hx : newI k par t = ⟨k, 1, 0, 0, 0, abE, [], t⟩ := by unfold newI; rw [if_neg h2]
        rw [hx]
        refine ⟨⟨w.heap.size, 0, 0, 0, none, 0⟩, rfl, HB.out, ⟨h8.1.1, h8.1.2.1, h8.1.2.2.1, h8.1.2.2.2.1, ?_, ?_, h8.1.2.2.2.2.2.2.1, h8.1.2.2.2.2.2.2.2, h8.2, fun e => absurd e h1, fun e => absurd e h2⟩, Nat.le_refl _, fun e => absurd e h1, fun e => absurd e h2⟩
        · rw [h8.1.2.2.2.2.1]; unfold bpV; rw [if_neg h1]
        · rw [h8.1.2.2.2.2.2.1]; unfold dpV; rw [if_neg h2])
      generalize newI k par t = x at *
      have q1 : (k == 1) = false := by simpa using h1
      have q2 : (k == 2) = false := by simpa using h2
      clear h8 hP hPl hlo h1 h2
      go_enter Tryz.func43, Tryz.ntmps43
      go_wp2_with fail
      go_ret
      exact HE.out
end Go.Proofs.YtlelnpckbcpkkaaGreat.cb
namespace Go.Proofs.YtlelnpckbcpkkaaGreat.cb
open Go.RowKit
open Go.Proofs.YtlelnpckbcpkkaaGreat.qu (KN ins QL)
open Go.Proofs.YtlelnpckbcpkkaaGreat.dn (Du En lget lset ldel getV nerr dotB Sorted RetV serr lsetE)
open Go.Proofs.YtlelnpckbcpkkaaGreat.bl (AB Bod BodC StoC Only Pq cut cutR wr WR)
open Go.Proofs.YtlelnpckbcpkkaaGreat.br
set_option linter.unusedVariables false
set_option linter.unusedSimpArgs false

section
variable {w w' : World} {P lo st qb room T : Nat} {qo : Option Nat} {pl : Nat → Pl} {tag : Nat → Nat} {S : BS} {L : List KN}
/-- What the tags say of blocks that are the call's. -/
def RetG (w : World) (P lo st qb : Nat) (tag : Nat → Nat) (v : Value) (S' : BS) (room T : Nat) (e : Ending) (w' : World) : Prop :=
  e = .returned v ∧ ∃ qo' pl' tag' T', T' ≤ T + 1 ∧ CB w' P lo st qb qo' pl' tag' S' room (freeL S') T' ∧ Stp w w' tag tag'
theorem RetG.of {v : Value} {S' : BS} {e : Ending} (h : RetF w P lo st qb pl tag v S' room T e w') : RetG w P lo st qb tag v S' room T e w' := by
  obtain ⟨he, T', hT, qo', pl', tag', h1, h2, h3⟩ := h
  exact ⟨he, qo', pl', tag', T', hT, h1, h2⟩
theorem RetG.same (h : CB w P lo st qb qo pl tag S room (freeL S) T) (v : Value) (hb : Below w.heap.size w w') : RetG w P lo st qb tag v S room T (.returned v) w' := ⟨rfl, qo, pl, tag, T, Nat.le_succ T, h.below hb, Stp.below hb⟩
theorem serr_ok {s : ByteArray} {n : Nat} (h1 : nerr s.data.toList = 0) (h2 : dotB s = false) (h3 : 1 ≤ n) (L : List En) : serr s (n : Int) = 0 ∧ lsetE s (n : Int) L = lset s (n : Int) L := by
  have : serr s (n : Int) = 0 := by unfold serr; rw [if_neg (by omega), if_neg]; rintro (e | e); exact absurd e (by rw [h2]; decide); omega
  exact ⟨this, by unfold lsetE; rw [if_pos this]⟩
/-- The inode is laid, and its name set. -/
theorem make_end {w3 w4 : World} {qo3 : Option Nat} {pl3 : Nat → Pl} {tag3 : Nat → Nat} {D n : Nat} {s t : ByteArray} {k : Int} {r : List KN} {x : KN} {p : Pl} (hG : br.Good S room) (hv : S.vacant (D : Int) s = 0) (hbk : badKind k t = false) (hm : s.size ≤ 9223372036854775807) (hL : freeL S = x :: r) (hn : n = S.free 1 200)
    (h3 : CB w3 P lo st qb qo3 pl3 tag3 S room r T) (hs3 : Stp w w3 tag tag3) (hb : Below w3.heap.size w3 w4) (hx : InoC w4 st lo p (newI k (D : Int) t)) (b1 : w3.heap.size ≤ p.nd) (b2 : (newI k (D : Int) t).kind = 1 → w3.heap.size ≤ p.bo ∧ w3.heap.size ≤ p.bm ∧ p.bo ≠ p.nd ∧ p.bm ≠ p.nd ∧ p.bo ≠ p.bm) (b3 : (newI k (D : Int) t).kind = 2 → w3.heap.size ≤ p.di ∧ p.di ≠ p.nd ∧ p.dr = none) :
    ∃ C, (w4.setCell ⟨P, 1 + n, none⟩ (Pq p.nd)).cell? ⟨(pl3 D).nd, 5, none⟩ = some (Pq C) ∧
      Calls Tryz.prog 78 #[Pq C, .string s, .int .i64 (n : Int)] (w4.setCell ⟨P, 1 + n, none⟩ (Pq p.nd)) (fun e w' => e = .returned (.int .i64 0) ∧ ∃ qo' pl' tag' T', T' ≤ T + 1 ∧ CB w' P lo st qb qo' pl' tag' (S.make (D : Int) s k t).2 room (freeL (S.make (D : Int) s k t).2) T' ∧ Stp w w' tag tag') := by
  obtain ⟨D', hD', d1, d2, hD, hl, hg, hne, hdo⟩ := vacant_ok hv
  obtain rfl : D = D' := by omega
  obtain ⟨hx0, n1, n2, _⟩ := freeL_cons hL
  rw [← hn] at n1 n2
  have hz : (S.ino n).kind = 0 := by rw [hn]; exact (free_spec S 200 1).2.2.1 (by omega)
  have hnD : n ≠ D := fun e => by rw [e, hD] at hz; cases hz
  have hxk : (newI k (D : Int) t).kind ≠ 0 := by
    show k ≠ 0
    intro e; subst e
    unfold badKind at hbk; simp at hbk
  obtain ⟨tag5, h5, ht5⟩ := h3.born n2 hz hxk hb hx b1 b2 b3
  have eD : (BS.ino ⟨upd S.ino n (newI k (D : Int) t), S.used⟩ D) = S.ino D := upd_other _ _ (fun e => hnD e.symm)
  have hst : Stp w3 (w4.setCell ⟨P, 1 + n, none⟩ (Pq p.nd)) tag3 tag5 := ⟨ht5, (Only.of_below hb).trans ⟨rfl, rfl, rfl, by simp [World.setCell], fun j hj hF => Below.heap_setCell _ _ _ _ (fun e => hF (by show tag3 j ≠ 0; rw [e, h3.tP]; decide))⟩⟩
  have hi := h5.ino D d2 (by rw [eD, hD]; decide)
  rw [eD] at hi
  have c5 := hi.c5d hD
  rw [if_neg (fun e => hnD e.symm)] at c5
  refine ⟨_, c5, ?_⟩
  have hd := h5.dset d2 (by rw [eD]; exact hD) (by rw [eD]; exact hG.1.sorted D) (by rw [eD]; exact hG.1.dirLen D) s (n : Int) hm
  rw [eD] at hd
  dsimp only at hd
  rw [if_neg (fun e => hnD e.symm)] at hd
  obtain ⟨e0, e1⟩ := serr_ok (n := n) hne hdo n1 (S.ino D).dir
  rw [e0, e1] at hd
  refine hd.mono ?_
  rintro e w6 ⟨he, qo6, pl6, tag6, h6, hs6, hp6⟩
  have eM : (S.make (D : Int) s k t).2 = ⟨upd (upd S.ino n (newI k (D : Int) t)) D { S.ino D with dir := lset s (n : Int) (S.ino D).dir }, S.used⟩ := by
    unfold BS.make
    rw [if_neg (by omega), if_neg (by rw [hbk]; decide)]
    dsimp only
    rw [← hn, if_neg (by omega)]
    unfold BS.putDir BS.put
    dsimp only
    rw [Int.toNat_natCast, Int.toNat_natCast]
    show BS.mk (upd (upd S.ino n (newI k (D : Int) t)) D { upd S.ino n (newI k (D : Int) t) D with dir := lset s (n : Int) (upd S.ino n (newI k (D : Int) t) D).dir }) S.used = _
    rw [upd_other _ _ (fun e => hnD e.symm)]
  have hf : r = freeL (S.make (D : Int) s k t).2 := by
    rw [eM]
    refine freeL_pop hL ?_ fun j hj => ?_
    · rw [← hn]
      show (upd _ D _ n).kind ≠ 0
      rw [upd_other _ _ hnD, upd_same]; exact hxk
    · rw [← hn] at hj
      show (upd _ D _ j).kind = _
      by_cases e : j = D
      · subst e; rw [upd_same]
      · rw [upd_other _ _ e, upd_other _ _ hj]
  rw [← eM] at h6
  rw [← hf]
  exact ⟨he, qo6, pl6, tag6, T, Nat.le_succ T, h6, hs3.trans (hst.trans hs6)⟩
set_option maxRecDepth 100000 in
set_option maxHeartbeats 1000000 in
theorem make_any (h : CB w P lo st qb qo pl tag S room (freeL S) T) (hG : br.Good S room) (hT : T ≤ 900000) (d : Int) (s : ByteArray) (k : Int) (t : ByteArray) (hm : s.size ≤ 9223372036854775807) (hmt : t.size ≤ 9223372036854775807) :
    Calls Tryz.prog 28 #[Pq P, .int .i64 d, .string s, .int .i64 k, .string t] w (RetG w P lo st qb tag (.tuple #[.int .i64 (S.make d s k t).1.1, .int .i64 (S.make d s k t).1.2]) (S.make d s k t).2 room T) := by
  have HV := Lib.hid (vacant_any h hG d s hm)
  unfold RetW at HV
  have HF := Lib.hid (fun w2 v hb => RetG.same (w' := w2) h v hb)
  by_cases h1 : S.vacant d s = 0
  · obtain ⟨D, rfl, d1, d2, hD, _⟩ := vacant_ok h1
    have hvv : vacV S pl (D : Int) s = .tuple #[Pq (pl D).nd, .int .i64 0] := by unfold vacV; rw [if_pos h1, h1]; rfl
    rw [hvv] at HV
    have HFT := Lib.hid (fun w2 => fits_any k t w2 hmt)
    cases hbk : badKind k t
    · rw [hbk] at HFT
      have HPP := Lib.hid (fun w2 (hb : Below w.heap.size w w2) => (h.below hb).qpop hT)
      have HQ := Lib.hid (fun w2 (hb : Below w.heap.size w w2) => (h.below hb).cq)
      cases hL : freeL S with
      | nil =>
        rw [hL] at HPP
        have hpv : qu.popV ([] : List KN) = .tuple #[.int .i64 0, .int .i64 0, .bool false] := rfl
        rw [hpv] at HPP
        have hv := Lib.hid (show S.make (D : Int) s k t = ((0, 28), S) by
          have := freeL_nil hL
          unfold BS.make; rw [if_neg (by omega), if_neg (by rw [hbk]; decide)]; dsimp only; rw [if_pos (by omega)])
        rw [hv.out]
        have HE := Lib.hid (show ∀ w2 w3, Below w.heap.size w w2 → Nx w2 w3 P lo st qb pl tag S room ([] : List KN).tail T → RetG w P lo st qb tag (.tuple #[.int .i64 0, .int .i64 28]) S room T (.returned (.tuple #[.int .i64 0, .int .i64 28])) w3 from fun w2 w3 hb hx => by
          obtain ⟨qo', pl', tag', h1, h2, h3⟩ := hx
          exact ⟨rfl, qo', pl', tag', T, Nat.le_succ T, by rw [hL]; exact h1, (Stp.below hb).trans h2⟩)
        generalize (pl D).nd = N at *
        clear h hG hT h1 hvv hbk hL hpv hv HF
        go_enter Tryz.func28, Tryz.ntmps28
        go_wp2_with fail
        refine HV.out.mono ?_
        rintro e w2 ⟨rfl, hb⟩
        have q0 := HQ.out _ hb
        have HP2 := Lib.hid (HPP.out _ hb)
        have HB := Lib.hid hb
        clear HQ HPP hb HV
        go_wp2_with fail
        refine (HFT.out _).mono ?_
        rintro e w3 ⟨rfl, rfl⟩
        go_wp2_with fail
        refine HP2.out.mono ?_
        rintro e w3 ⟨rfl, hx⟩
        clear q0
        go_wp2_with fail
        go_ret2
        exact HE.out _ _ HB.out hx
      | cons x r =>
        obtain ⟨hx0, n1, n2, _⟩ := freeL_cons hL
        obtain ⟨n, hn⟩ : ∃ n, n = S.free 1 200 := ⟨_, rfl⟩
        rw [← hn] at hx0 n1 n2
        subst hx0
        rw [hL] at HPP
        have hpv : qu.popV (kk n :: r) = .tuple #[.int .i64 (n : Int), .int .i64 (n : Int), .bool true] := rfl
        have htl : (kk n :: r).tail = r := rfl
        rw [hpv, htl] at HPP
        have hv := Lib.hid (show (S.make (D : Int) s k t).1 = ((n : Int), 0) by
          unfold BS.make; rw [if_neg (by omega), if_neg (by rw [hbk]; decide)]; dsimp only; rw [← hn, if_neg (by omega)])
        rw [hv.out]
        have HM := Lib.hid (fun w3 w4 qo3 pl3 tag3 p h3 hs3 hb hx b1 b2 b3 => make_end (w := w) (w3 := w3) (w4 := w4) (qo3 := qo3) (pl3 := pl3) (tag3 := tag3) (p := p) (S := S) (P := P) (lo := lo) (st := st) (qb := qb) (T := T) (tag := tag) (D := D) hG h1 hbk hm hL hn h3 hs3 hb hx b1 b2 b3)
        have HBK := Lib.hid (fun w3 qo3 pl3 tag3 (h3 : CB w3 P lo st qb qo3 pl3 tag3 S room r T) => blank_any P st lo w3.drew h3.c0 h3.plt.1 (by have := h3.plt; show lo ≤ w3.heap.size; omega) k (D : Int) t)
        have hzn : (S.ino n).kind = 0 := by rw [hn]; exact (free_spec S 200 1).2.2.1 (by omega)
        have HSL := Lib.hid (fun w3 w4 qo3 pl3 tag3 (h3 : CB w3 P lo st qb qo3 pl3 tag3 S room r T) (hb : Below w3.heap.size w3 w4) => (show w4.cell? ⟨P, 1 + n, none⟩ = some (.pointer none) ∧ w4.frozen? ⟨P, 1 + n, none⟩ = false from
          ⟨(hb.cell (p := ⟨P, 1 + n, none⟩) h3.plt.1).trans ((h3.ci n n2).trans (congrArg some (ptV_no hzn))), (hb.frozen (p := ⟨P, 1 + n, none⟩) h3.plt.1).trans (h3.cf _)⟩))
        have HDn := Lib.hid (show (S.ino D).kind ≠ 0 by rw [hD]; decide)
        have HND := Lib.hid (show ∀ pl3 : Nat → Pl, (∀ j, (S.ino j).kind ≠ 0 → (pl3 j).nd = (pl j).nd) → (pl3 D).nd = (pl D).nd from fun pl3 h => h D HDn.out)
        generalize (pl D).nd = N at *
        have in0 : (0 : Int) ≤ (n : Int) := by omega
        have in1 : (n : Int) ≤ 200 := by omega
        have in2 : (n : Int) < 201 := by omega
        clear h hG hT h1 hvv hbk hL hpv hv HF htl hn hzn HDn
        go_enter Tryz.func28, Tryz.ntmps28
        go_wp2_with fail
        refine HV.out.mono ?_
        rintro e w2 ⟨rfl, hb⟩
        have q0 := HQ.out _ hb
        have HP2 := Lib.hid (HPP.out _ hb)
        have HB := Lib.hid hb
        clear HQ HPP hb HV
        go_wp2_with fail
        refine (HFT.out _).mono ?_
        rintro e w3 ⟨rfl, rfl⟩
        go_wp2_with fail
        refine HP2.out.mono ?_
        rintro e w3 ⟨rfl, qo3, pl3, tag3, h3, hs3, hp3⟩
        clear q0
        go_wp2_with fail
        go_region_held3 (fun w' => True)
          (first | trivial | assumption | go_keep)
          (first
          | (go_at_call 43; ((with_reducible refine (HBK.out w3 qo3 pl3 tag3 h3).mono ?_); rintro e w4 ⟨p, rfl, hb4, hx4, b1, b2, b3⟩; have hb4' := (Below.refl w3.heap.size w3).drew.trans hb4; obtain ⟨z1, z2⟩ := HSL.out w3 w4 qo3 pl3 tag3 h3 hb4')))
        all_goals
          obtain ⟨C, c5, hd⟩ := HM.out w3 w4 qo3 pl3 tag3 p h3 ((Stp.below HB.out).trans hs3) hb4' hx4 b1 b2 b3
          rw [HND.out pl3 hp3] at c5
          have HD := Lib.hid hd
          clear hd h3 hs3 hp3 hb4 hb4' hx4 b1 b2 b3 z1 z2 HM HBK HSL HFT HND HP2
          go_wp2_with fail
          refine HD.out.mono ?_
          rintro e w6 ⟨rfl, hx⟩
          clear c5
          go_wp2_with fail
          go_ret2
          exact ⟨rfl, hx⟩
    · rw [hbk] at HFT
      have hv := Lib.hid (show S.make (D : Int) s k t = ((0, 22), S) by unfold BS.make; rw [if_neg (by omega), if_pos hbk])
      rw [hv.out]
      generalize (pl D).nd = N at *
      clear h hG hT h1 hvv hbk hv
      go_enter Tryz.func28, Tryz.ntmps28
      go_wp2_with fail
      refine HV.out.mono ?_
      rintro e w2 ⟨rfl, hb⟩
      go_wp2_with fail
      refine (HFT.out _).mono ?_
      rintro e w3 ⟨rfl, rfl⟩
      go_wp2_with fail
      go_ret2
      exact HF.out _ _ hb
  · have hv := Lib.hid (show S.make d s k t = ((0, S.vacant d s), S) by unfold BS.make; rw [if_pos h1])
    have hvv : vacV S pl d s = .tuple #[.pointer none, .int .i64 (S.vacant d s)] := by unfold vacV; rw [if_neg h1]
    rw [hvv] at HV
    rw [hv.out]
    generalize S.vacant d s = x at *
    have hx : (x != 0) = true := by simpa using h1
    clear h hG hT h1 hvv hv
    go_enter Tryz.func28, Tryz.ntmps28
    go_wp2_with fail
    refine HV.out.mono ?_
    rintro e w2 ⟨rfl, hb⟩
    go_wp2_with fail
    go_ret2
    exact HF.out _ _ hb
end
end Go.Proofs.YtlelnpckbcpkkaaGreat.cb
