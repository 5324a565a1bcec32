/- 'Last' and 'Join', the program's and the document's: what both hand back, under one name each. -/
import Derived.Test.YtlaceeiodlpmdaaSpoil
import Derived.SizedLaws
namespace Go.Proofs.Ytlaceeiodlpmdaa
open Go.ChangeShapes Go.WideShapes Go.ChangeAt Go.RowKit

def LU (w : World) (ns : List Bs) (x : Bs) (f : Int) (b : Bool) (e : Ending) (w' : World) : Prop :=
  ∃ A n c, e = .returned (.tuple #[Pv A n c b, Sv x, .int .i64 f]) ∧ n = ns.length ∧ Own w' w.heap.size A c ns ∧ Below w.heap.size w w'
theorem lNames_len (xs : List Bs) : (lNames xs).length ≤ xs.length := by
  unfold lNames; split
  · simp
  · rw [List.length_dropLast]; omega
theorem last_two (xs : List Bs) : ∃ (ns : List Bs) (x : Bs) (f : Int) (b : Bool), ns.length ≤ xs.length ∧
    ∀ (A : Option Addr) (n c B : Nat) (d : Bool) (w : World), n = xs.length → n ≤ 65536 → n ≤ c → B ≤ w.heap.size → Strs w B A xs → Calls Try.prog 19 #[Pv A n c d] w (LU w ns x f b) ∧ Calls Try.prog 20 #[Pv A n c d] w (LU w ns x f b) :=
  ⟨lNames xs, lName xs, lErr xs, !lastNo xs, lNames_len xs, fun A n c B d w h1 h2 h3 h4 h5 =>
    ⟨(lastU A n c B d xs w h1 h2 h3 h4 h5).mono fun _ _ ⟨A', c', he, ho, hb⟩ => ⟨A', _, c', he, rfl, ho, hb⟩,
     (rlastU A n c B d xs w h1 h2 h3 h4 h5).mono fun _ _ ⟨A', c', he, ho, hb⟩ => ⟨A', _, c', he, rfl, ho, hb⟩⟩⟩

def JU (w : World) (ns : List Bs) (f : Int) (b : Bool) (e : Ending) (w' : World) : Prop :=
  ∃ A n c, e = .returned (.tuple #[Pv A n c b, .int .i64 f]) ∧ n = ns.length ∧ Own w' w.heap.size A c ns ∧ Below w.heap.size w w'
theorem jNames_len (xs ys : List Bs) : (jNames xs ys).length ≤ 40 := by
  unfold jNames; split
  · simp
  · rw [List.length_append]; omega
theorem join_two (xs ys : List Bs) (d d' : Bool) : ∃ (ns : List Bs) (f : Int) (b : Bool), ns.length ≤ 40 ∧
    ∀ (A A' : Option Addr) (n c n' c' B : Nat) (w : World), n ≤ 10000 → n' ≤ 10000 → n = xs.length → n' = ys.length → B ≤ w.heap.size → Strs w B A xs → Strs w B A' ys →
      Calls Try.prog 21 #[Pv A n c d, Pv A' n' c' d'] w (JU w ns f b) ∧ Calls Try.prog 22 #[Pv A n c d, Pv A' n' c' d'] w (JU w ns f b) :=
  ⟨jNames xs ys, jErr xs ys, jDir xs ys d d', jNames_len xs ys, fun A A' n c n' c' B w h1 h2 h3 h4 h5 h6 h7 =>
    ⟨(joinU A A' n c n' c' B d d' xs ys w h1 h2 h3 h4 h5 h6 h7).mono fun _ _ ⟨A', c', he, ho, hb⟩ => ⟨A', _, c', he, rfl, ho, hb⟩,
     (rjoinU A A' n c n' c' d d' xs ys w h1 h2 h3 h4 (h6.more h5) (h7.more h5)).mono fun _ _ ⟨A', c', he, ho, hb⟩ => ⟨A', _, c', he, rfl, ho, hb⟩⟩⟩
theorem text_two (xs : List Bs) (d : Bool) (hs : xs.length ≤ 201 ∧ mass xs ≤ 65536) (hm : ∀ x ∈ xs, x.length ≤ 140737488351232) : ∃ t : Bs, ∀ (A : Option Addr) (n c B : Nat) (w : World), n = xs.length → n ≤ c → B ≤ w.heap.size → Strs w B A xs →
    Calls Try.prog 23 #[Pv A n c d] w (fun e w' => e = .returned (Sv t) ∧ Below w.heap.size w w') ∧ Calls Try.prog 24 #[Pv A n c d] w (fun e w' => e = .returned (Sv t) ∧ Below w.heap.size w w') := by
  have h1 := joined_len xs
  have h2 := sum_le 140737488351232 (by omega) xs hs.2 hm
  have h3 : (Lib.join xs [47]).length ≤ 140737488355328 := by omega
  exact ⟨textL xs d, fun A n c B w e1 e2 e3 e4 => ⟨text_big A n c B d xs w e1 e2 e3 e4 h3 (by omega), rtext_big A n c d xs w e1 (by omega) (e4.more e3) h3⟩⟩

theorem weightsAll_mem {H : Type} {P : Program} {e : TypeId} : ∀ {l : List (DataW H)} {d : DataW H}, d ∈ l → ∀ n ∈ d.weights P e, n ∈ DataW.weightsAll P e l
  | d0 :: l, d, hd, n, hn => by
    rw [DataW.weightsAll, List.mem_append]
    rcases List.mem_cons.1 hd with rfl | hd
    · exact .inl hn
    · exact .inr (weightsAll_mem hd n hn)

/-- A path that came in, opened, with a bound on each name. -/
theorem open_path2 {H : Type} {enc : TypeId × Value → H} {W : World} {r : Reach} {b0 : Nat} {sp : Nat → Bool} {held : Bool} {v : Value} {d : DataW H} {p : List MemPlace}
    (hv : Value.okWide Try.prog W r b0 25 v) (h : DataW.Trod enc Try.prog W 0 sp held 25 v d p) (hz : ∀ n ∈ d.weights Try.prog 25, n ≤ reachBytes) :
    ∃ A n c dd xs, v = Pv A n c dd ∧ n = List.length xs ∧ (n ≤ c ∧ c ≤ maxLen) ∧ Strs W W.heap.size A xs ∧ ∀ x ∈ xs, x.length ≤ 140737488351232 := by
  obtain ⟨v0, v1, y0, y1, m, rfl, hd, _, h0, h1⟩ := Go.Joins.open_agg2 Try.underlying25 (by kernel_rfl) cells25 hv h
  obtain ⟨dd, e1, _⟩ := DataW.trod_bool Try.underlying4 h1
  injection e1 with e1
  subst e1
  rcases open_strings Try.underlying23 Try.underlying9 cells9 h0 with ⟨e0, _⟩ | ⟨a, len, cap, ss, e0, _, hl, hm, hz0, hy, hcell, _⟩
  · injection e0 with e0
    subst e0
    exact ⟨none, 0, 0, dd, [], rfl, rfl, ⟨Nat.le_refl _, by unfold maxLen; omega⟩, Strs.nil _ _ _, by simp⟩
  · injection e0 with e0
    subst e0
    have hlen : len ≤ ss.length := by rw [hz0]; split <;> omega
    refine ⟨some a, len, cap, dd, (ss.take len).map (·.data.toList), rfl, by rw [List.length_map, List.length_take]; omega, ⟨hl, hm⟩, ?_, ?_⟩
    · intro hn
      have hcc : ∀ (j : Nat) x, ((ss.take len).map (·.data.toList))[j]? = some x → W.cell? (a.add j) = some (Sv x) := by
        intro j x hx
        rw [List.getElem?_map, Option.map_eq_some_iff] at hx
        obtain ⟨s, hs, rfl⟩ := hx
        have hj := (List.getElem?_eq_some_iff.1 hs).1
        rw [List.length_take] at hj
        rw [List.getElem?_take_of_lt (by omega)] at hs
        rw [hcell j (by omega), List.getD_eq_getElem?_getD, hs]
        simp
      have h00 := hcc 0 _ (List.getElem?_eq_getElem hn)
      refine ⟨a, rfl, ?_, hcc⟩
      have := World.block_lt_of_cell? W _ h00
      rw [addr_block] at this
      exact this
    · intro x hx
      rw [List.mem_map] at hx
      obtain ⟨s, hs, rfl⟩ := hx
      have e : y0.1 = .slice (strs (ss.take len)) (strs (ss.drop len)) := by rw [hy]
      have h2 : s.data.toList.length ∈ d.weights Try.prog 25 := by
        rw [hd, DataW.weights, Try.underlying25]
        simp only [List.map_cons, DataW.weightsEach, List.mem_append]
        refine .inl ?_
        rw [e, DataW.weights, Try.underlying23]
        simp only [List.mem_cons, List.mem_append]
        refine .inr (.inl (weightsAll_mem (d := .lit (.string s.data.toList)) ?_ _ (by simp [DataW.weights])))
        unfold strs
        exact List.mem_map.2 ⟨s, hs, rfl⟩
      have := hz _ h2
      unfold reachBytes at this
      omega
end Go.Proofs.Ytlaceeiodlpmdaa
