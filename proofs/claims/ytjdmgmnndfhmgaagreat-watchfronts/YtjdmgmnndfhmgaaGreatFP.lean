/- Calls that came in. -/
import Derived.Test.YtjdmgmnndfhmgaaGreatFC
import Derived.Test.YtjdmgmnndfhmgaaGreatFR
import Derived.Deep.Grids
import Derived.Deep.Strs
namespace Go.Proofs.YtjdmgmnndfhmgaaGreat
open Go.ChangeShapes Go.WideShapes Go.ChangeAt Go.RowKit
theorem cells39 : Tryz.prog.cellsOf 39 = 6 := by kernel_rfl
theorem cells3 : Tryz.prog.cellsOf 3 = 1 := by kernel_rfl
theorem cells9 : Tryz.prog.cellsOf 9 = 1 := by kernel_rfl
theorem cells37 : Tryz.prog.cellsOf 37 = 1 := by kernel_rfl
theorem str_len {H : Type} {s : ByteArray} (hw : ∀ n ∈ (DataW.lit (H := H) (.string s.data.toList)).weights Tryz.prog 9, n ≤ reachBytes) : s.size ≤ 140737488355328 := by
  have := hw s.data.toList.length (by simp [DataW.weights])
  rw [Array.length_toList] at this
  have h3 : s.size ≤ reachBytes := this
  unfold reachBytes at h3; omega
theorem struct6 {H : Type} {enc : TypeId × Value → H} {P : Program} {w : World} {base : Nat} {spare : Nat → Bool} {held : Bool} {t : TypeId} {f0 f1 f2 f3 f4 f5 : Field} {fuel : Nat} {cs : List Value} {x : DataW H × List MemPlace} (ht : P.underlying t = some (.struct #[f0, f1, f2, f3, f4, f5])) (h : DataW.trod enc P w base spare held fuel t cs = some x) :
    ∃ y0 y1 y2 y3 y4 y5 n, x.1 = .agg [y0.1, y1.1, y2.1, y3.1, y4.1, y5.1] ∧ cs.length = P.cellsOf t ∧ DataW.trod enc P w base spare held n f0.type ((cs.drop f0.offset).take (P.cellsOf f0.type)) = some y0 ∧
      DataW.trod enc P w base spare held n f1.type ((cs.drop f1.offset).take (P.cellsOf f1.type)) = some y1 ∧ DataW.trod enc P w base spare held n f2.type ((cs.drop f2.offset).take (P.cellsOf f2.type)) = some y2 ∧
      DataW.trod enc P w base spare held n f3.type ((cs.drop f3.offset).take (P.cellsOf f3.type)) = some y3 ∧ DataW.trod enc P w base spare held n f4.type ((cs.drop f4.offset).take (P.cellsOf f4.type)) = some y4 ∧
      DataW.trod enc P w base spare held n f5.type ((cs.drop f5.offset).take (P.cellsOf f5.type)) = some y5 := by
  obtain ⟨xs, n, _, rfl, hl, hlen, hf⟩ := DataW.trod_struct ht h
  match xs, hlen with
  | [y0, y1, y2, y3, y4, y5], _ => exact ⟨y0, y1, y2, y3, y4, y5, n, by simp, hl, by simpa using hf 0 f0 rfl, by simpa using hf 1 f1 rfl, by simpa using hf 2 f2 rfl, by simpa using hf 3 f3 rfl, by simpa using hf 4 f4 rfl, by simpa using hf 5 f5 rfl⟩
theorem weightsAll_mem {H : Type} {P : Program} {e : TypeId} {n : Nat} : ∀ {l : List (DataW H)} {d : DataW H}, d ∈ l → n ∈ d.weights P e → n ∈ DataW.weightsAll P e l
  | x :: r, d, hd, hn => by
    simp only [DataW.weightsAll, List.mem_append]
    rcases List.mem_cons.1 hd with rfl | hd
    · exact .inl hn
    · exact .inr (weightsAll_mem hd hn)
/-- Keys that came in. -/
theorem keys_in {H : Type} {enc : TypeId × Value → H} {W : World} {base : Nat} {sp : Nat → Bool} {held : Bool} {cs : List Value} {x : DataW H × List MemPlace} {fuel : Nat}
    (hf : DataW.trod enc Tryz.prog W base sp held fuel 37 cs = some x) (hw : ∀ n ∈ x.1.weights Tryz.prog 37, n ≤ reachBytes) : ∃ (v : Value) (ds : List ByteArray), cs = [v] ∧ ds.length ≤ maxLen ∧ SeesK W v ds := by
  rcases Deep.open_slice Tryz.underlying37 hf with ⟨hcs, _⟩ | ⟨y, len, cap, m, n, D, Pl, hcs, _, hl, hm, hmm, hx, hel⟩
  · exact ⟨_, [], hcs, by decide, .inl ⟨rfl, _, _, rfl⟩⟩
  · have hlm : len ≤ m := by rw [hmm]; split <;> omega
    have each : ∀ i, i < len → ∃ c : ByteArray, W.cell? (y.add (i * 1)) = some (.string c) ∧ c.size ≤ 140737488355328 := by
      intro i hi
      obtain ⟨cs', h1, h2⟩ := hel i (by omega)
      have hwi : ∀ q ∈ (D i).weights Tryz.prog 9, q ≤ reachBytes := fun q hq => hw q (by
        rw [hx]
        simp only [DataW.weights, Tryz.underlying37, List.mem_cons, List.mem_append]
        exact .inr (.inl (weightsAll_mem (List.mem_map.2 ⟨i, List.mem_range.2 hi, rfl⟩) hq)))
      rw [cells9] at h1
      obtain ⟨sa, e2, x2, _⟩ := DataW.trod_string Tryz.underlying9 h2
      obtain ⟨_, _, hc⟩ := World.cells?_some h1
      have x2 : D i = .lit (.string sa.data.toList) := congrArg Prod.fst x2
      rw [x2] at hwi
      have b2 : sa.size ≤ 140737488355328 := str_len hwi
      subst e2
      have g0 := hc 0 (by simp)
      rw [Deep.add_add] at g0
      exact ⟨sa, by simpa using g0, b2⟩
    haveI : Inhabited ByteArray := ⟨ByteArray.empty⟩
    obtain ⟨f, hfn⟩ := Deep.choose_lt (α := ByteArray) (p := fun i c => W.cell? (y.add (i * 1)) = some (.string c) ∧ c.size ≤ 140737488355328) each
    have hpl : ((List.range len).map f).length = len := by simp
    refine ⟨_, (List.range len).map f, hcs, by omega, ?_⟩
    by_cases h0 : len = 0
    · subst h0
      exact .inl ⟨by simp, _, _, rfl⟩
    · obtain ⟨g0, _⟩ := hfn 0 (by omega)
      obtain ⟨b, off, spot⟩ := y
      have hspot : spot = none := by simpa [Addr.add] using World.cell?_spot g0
      subst hspot
      refine .inr ⟨b, off, cap, by rw [hpl], by omega, ?_, fun i hi => ?_⟩
      · have := World.block_lt_of_cell? _ _ g0
        simpa [Addr.add] using this
      · have hi' : i < len := by omega
        have e : ((List.range len).map f).getD i ByteArray.empty = f i := by simp [List.getD_eq_getElem?_getD, hi']
        rw [e]
        obtain ⟨c0, r4⟩ := hfn i hi'
        rw [Addr.add_lit, Nat.mul_one] at c0
        exact ⟨c0, r4⟩
theorem calls_in {H : Type} {enc : TypeId × Value → H} {W : World} {base : Nat} {sp : Nat → Bool} {held : Bool} {a : Option Addr} {len cap : Nat} {x : DataW H × List MemPlace} {fuel : Nat}
    (hf : DataW.trod enc Tryz.prog W base sp held fuel 22 (Value.cells (.slice a len cap)).toList = some x) (hw : ∀ n ∈ x.1.weights Tryz.prog 22, n ≤ reachBytes) : ∃ cs : List Cd, cs.length ≤ maxLen ∧ SeesC W (.slice a len cap) cs := by
  rcases Deep.open_slice Tryz.underlying22 hf with ⟨hcs, _⟩ | ⟨y, l, c, m, n, D, Pl, hcs, _, hl, hm, hmm, hx, hel⟩
  · simp [Value.cells] at hcs
    obtain ⟨rfl, rfl, rfl⟩ := hcs
    exact ⟨[], by decide, .inl ⟨rfl, _, _, rfl⟩⟩
  · simp [Value.cells] at hcs
    obtain ⟨rfl, rfl, rfl⟩ := hcs
    have hlm : len ≤ m := by rw [hmm]; split <;> omega
    have each : ∀ i, i < len → ∃ c : Cd, W.cell? (y.add (i * 6)) = some (.int .i64 c.kind) ∧ W.cell? (y.add (i * 6 + 1)) = some (.int .i64 c.n) ∧ W.cell? (y.add (i * 6 + 2)) = some (.int .i64 c.max) ∧ W.cell? (y.add (i * 6 + 3)) = some (.string c.lo) ∧ W.cell? (y.add (i * 6 + 4)) = some (.string c.hi) ∧
        (∃ v, W.cell? (y.add (i * 6 + 5)) = some v ∧ SeesK W v c.keys) ∧ c.lo.size ≤ 140737488355328 ∧ c.hi.size ≤ 140737488355328 ∧ c.keys.length ≤ 9223372036854775807 := by
      intro i hi
      obtain ⟨cs', h1, h2⟩ := hel i (by omega)
      have hwi : ∀ q ∈ (D i).weights Tryz.prog 39, q ≤ reachBytes := fun q hq => hw q (by
        rw [hx]
        simp only [DataW.weights, Tryz.underlying22, List.mem_cons, List.mem_append]
        exact .inr (.inl (weightsAll_mem (List.mem_map.2 ⟨i, List.mem_range.2 hi, rfl⟩) hq)))
      rw [cells39] at h1
      obtain ⟨y0, y1, y2, y3, y4, y5, n', hD, hlen, t0, t1, t2, t3, t4, t5⟩ := struct6 Tryz.underlying39 h2
      have hD : D i = .agg [y0.1, y1.1, y2.1, y3.1, y4.1, y5.1] := hD
      have hwe : ∀ q ∈ DataW.weightsEach Tryz.prog [3, 3, 3, 9, 9, 37] [y0.1, y1.1, y2.1, y3.1, y4.1, y5.1], q ≤ reachBytes := fun q hq => hwi q (by
        rw [hD]
        simp only [DataW.weights, Tryz.underlying39]
        exact hq)
      have hwj : ∀ (j : Nat) (t : TypeId) (d : DataW H), [3, 3, 3, 9, 9, 37][j]? = some t → [y0.1, y1.1, y2.1, y3.1, y4.1, y5.1][j]? = some d → ∀ q ∈ d.weights Tryz.prog t, q ≤ reachBytes := fun j t d ht hd q hq => hwe q (DataW.weights_mem_each ht hd q hq)
      rw [cells39] at hlen
      obtain ⟨_, _, hc⟩ := World.cells?_some h1
      simp only [cells3, cells9, cells37] at t0 t1 t2 t3 t4 t5
      match cs', hlen, t0, t1, t2, t3, t4, t5, hc with
      | [q0, q1, q2, q3, q4, q5], _, t0, t1, t2, t3, t4, t5, hc =>
        obtain ⟨k, e0, _, _⟩ := DataW.trod_int Tryz.underlying3 t0
        obtain ⟨nn, e1, _, _⟩ := DataW.trod_int Tryz.underlying3 t1
        obtain ⟨ll, e2, _, _⟩ := DataW.trod_int Tryz.underlying3 t2
        obtain ⟨sa, e3, x3, _⟩ := DataW.trod_string Tryz.underlying9 t3
        obtain ⟨sb, e4, x4, _⟩ := DataW.trod_string Tryz.underlying9 t4
        obtain ⟨v, ds, e5, hdl, hds⟩ := keys_in t5 (hwj 5 37 y5.1 rfl rfl)
        simp at e0 e1 e2 e3 e4 e5
        subst e0 e1 e2 e3 e4 e5
        have b3 : sa.size ≤ 140737488355328 := by
          have := hwj 3 9 y3.1 rfl rfl
          rw [x3] at this
          exact str_len this
        have b4 : sb.size ≤ 140737488355328 := by
          have := hwj 4 9 y4.1 rfl rfl
          rw [x4] at this
          exact str_len this
        have g0 := hc 0 (by omega)
        have g1 := hc 1 (by omega)
        have g2 := hc 2 (by omega)
        have g3 := hc 3 (by omega)
        have g4 := hc 4 (by omega)
        have g5 := hc 5 (by omega)
        rw [Deep.add_add] at g0 g1 g2 g3 g4 g5
        exact ⟨⟨k, nn, ll, sa, sb, ds⟩, by simpa using g0, by simpa using g1, by simpa using g2, by simpa using g3, by simpa using g4, ⟨q5, by simpa using g5, hds⟩, b3, b4, by unfold maxLen at hdl; exact hdl⟩
    haveI : Inhabited Cd := ⟨noCd⟩
    obtain ⟨f, hfn⟩ := Deep.choose_lt (α := Cd) (p := fun i c => W.cell? (y.add (i * 6)) = some (.int .i64 c.kind) ∧ W.cell? (y.add (i * 6 + 1)) = some (.int .i64 c.n) ∧ W.cell? (y.add (i * 6 + 2)) = some (.int .i64 c.max) ∧ W.cell? (y.add (i * 6 + 3)) = some (.string c.lo) ∧ W.cell? (y.add (i * 6 + 4)) = some (.string c.hi) ∧
        (∃ v, W.cell? (y.add (i * 6 + 5)) = some v ∧ SeesK W v c.keys) ∧ c.lo.size ≤ 140737488355328 ∧ c.hi.size ≤ 140737488355328 ∧ c.keys.length ≤ 9223372036854775807) each
    have hpl : ((List.range len).map f).length = len := by simp
    refine ⟨(List.range len).map f, by omega, ?_⟩
    by_cases h0 : len = 0
    · subst h0
      exact .inl ⟨by simp, _, _, rfl⟩
    · obtain ⟨g0, _⟩ := hfn 0 (by omega)
      obtain ⟨b, off, spot⟩ := y
      have hspot : spot = none := by simpa [Addr.add] using World.cell?_spot g0
      subst hspot
      refine .inr ⟨b, off, cap, by rw [hpl], by omega, ?_, fun i hi => ?_⟩
      · have := World.block_lt_of_cell? _ _ g0
        simpa [Addr.add] using this
      · have hi' : i < len := by omega
        have e : ((List.range len).map f).getD i noCd = f i := by simp [List.getD_eq_getElem?_getD, hi']
        rw [e]
        obtain ⟨c0, c1, c2, c3, c4, ⟨v, c5, c6⟩, r3, r4, r5⟩ := hfn i hi'
        rw [Addr.add_lit] at c0 c1 c2 c3 c4 c5
        exact ⟨c0, c1, c2, c3, c4, ⟨v, c5, c6⟩, r3, r4, r5⟩
end Go.Proofs.YtjdmgmnndfhmgaaGreat
