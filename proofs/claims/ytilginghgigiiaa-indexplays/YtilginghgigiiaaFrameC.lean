/- Slices of texts and of calls that came in. -/
import Derived.Test.YtilginghgigiiaaU1
import Derived.Test.YtilginghgigiiaaFrame
namespace Go.Proofs.Ytilginghgigiiaa
open Go.ChangeShapes Go.WideShapes Go.ChangeAt Go.RowKit
theorem cells31 : Try.prog.cellsOf 31 = 5 := by kernel_rfl
theorem cells3 : Try.prog.cellsOf 3 = 1 := by kernel_rfl
theorem cells9 : Try.prog.cellsOf 9 = 1 := by kernel_rfl
theorem cells4 : Try.prog.cellsOf 4 = 1 := by kernel_rfl
theorem bytes9 : Try.prog.bytesOf 9 = 16 := by kernel_rfl
theorem str_len {H : Type} {s : ByteArray} (hw : ∀ n ∈ (DataW.lit (H := H) (.string s.data.toList)).weights Try.prog 9, n ≤ reachBytes) : s.size ≤ 140737488355328 := by
  have := hw s.data.toList.length (by simp [DataW.weights])
  rw [Array.length_toList] at this
  have h3 : s.size ≤ reachBytes := this
  unfold reachBytes at h3; omega
/-- A slice of texts that came in. -/
theorem strs_in {H : Type} {enc : TypeId × Value → H} {W : World} {base : Nat} {sp : Nat → Bool} {held : Bool} {a : Option Addr} {len cap : Nat} {x : DataW H × List MemPlace} {fuel : Nat}
    (hf : DataW.trod enc Try.prog W base sp held fuel 43 (Value.cells (.slice a len cap)).toList = some x) (hw : ∀ n ∈ x.1.weights Try.prog 43, n ≤ reachBytes) : ∃ zs : List ByteArray, zs.length = len ∧ len ≤ 140737488355328 ∧ SeesS W (.slice a len cap) zs := by
  rcases Go.Deep.open_strs Try.underlying43 Try.underlying9 (by kernel_rfl) hf with ⟨hcs, _⟩ | ⟨y, l, c, m, Sx, hcs, _, hl, hm, hmm, hx, hcell⟩
  · simp [Value.cells] at hcs
    obtain ⟨rfl, rfl, rfl⟩ := hcs
    exact ⟨[], rfl, by decide, .inl ⟨rfl, _, _, rfl⟩⟩
  · simp [Value.cells] at hcs
    obtain ⟨rfl, rfl, rfl⟩ := hcs
    have hlm : len ≤ m := by rw [hmm]; split <;> omega
    have hbd : len ≤ 140737488355328 := by
      have := hw ((len + (m - len)) * Try.prog.bytesOf 9) (by rw [hx]; simp [DataW.weights, Try.underlying43])
      rw [bytes9] at this
      unfold reachBytes at this
      omega
    refine ⟨(List.range len).map Sx, by simp, hbd, ?_⟩
    by_cases h0 : len = 0
    · subst h0
      exact .inl ⟨by simp, _, _, rfl⟩
    · obtain ⟨b, off, spot⟩ := y
      have hspot : spot = none := by simpa [Addr.add] using World.cell?_spot (hcell 0 (by omega)).1
      subst hspot
      refine .inr ⟨b, off, cap, by simp, by simp; omega, World.block_lt_of_cell? W ⟨b, off + 0, none⟩ (by rw [← Go.WideShapes.add_plain]; exact (hcell 0 (by omega)).1), fun i hi => ?_⟩
      have hi' : i < len := by simpa using hi
      have e : ((List.range len).map Sx).getD i ByteArray.empty = Sx i := by simp [List.getD_eq_getElem?_getD, hi']
      rw [e, ← Go.WideShapes.add_plain]
      exact ⟨(hcell i (by omega)).1, by have := (hcell i (by omega)).2; unfold maxLen at this; omega⟩
theorem struct5 {H : Type} {enc : TypeId × Value → H} {P : Program} {w : World} {base : Nat} {spare : Nat → Bool} {held : Bool} {t : TypeId} {f0 f1 f2 f3 f4 : Field} {fuel : Nat} {cs : List Value} {x : DataW H × List MemPlace} (ht : P.underlying t = some (.struct #[f0, f1, f2, f3, f4])) (h : DataW.trod enc P w base spare held fuel t cs = some x) :
    ∃ y0 y1 y2 y3 y4 n, x.1 = .agg [y0.1, y1.1, y2.1, y3.1, y4.1] ∧ cs.length = P.cellsOf t ∧ DataW.trod enc P w base spare held n f0.type ((cs.drop f0.offset).take (P.cellsOf f0.type)) = some y0 ∧
      DataW.trod enc P w base spare held n f1.type ((cs.drop f1.offset).take (P.cellsOf f1.type)) = some y1 ∧ DataW.trod enc P w base spare held n f2.type ((cs.drop f2.offset).take (P.cellsOf f2.type)) = some y2 ∧
      DataW.trod enc P w base spare held n f3.type ((cs.drop f3.offset).take (P.cellsOf f3.type)) = some y3 ∧ DataW.trod enc P w base spare held n f4.type ((cs.drop f4.offset).take (P.cellsOf f4.type)) = some y4 := by
  obtain ⟨xs, n, _, rfl, hl, hlen, hf⟩ := DataW.trod_struct ht h
  match xs, hlen with
  | [y0, y1, y2, y3, y4], _ => exact ⟨y0, y1, y2, y3, y4, n, by simp, hl, by simpa using hf 0 f0 rfl, by simpa using hf 1 f1 rfl, by simpa using hf 2 f2 rfl, by simpa using hf 3 f3 rfl, by simpa using hf 4 f4 rfl⟩
theorem weightsAll_mem {H : Type} {P : Program} {e : TypeId} {n : Nat} : ∀ {l : List (DataW H)} {d : DataW H}, d ∈ l → n ∈ d.weights P e → n ∈ DataW.weightsAll P e l
  | x :: r, d, hd, hn => by
    simp only [DataW.weightsAll, List.mem_append]
    rcases List.mem_cons.1 hd with rfl | hd
    · exact .inl hn
    · exact .inr (weightsAll_mem hd hn)
theorem calls_in {H : Type} {enc : TypeId × Value → H} {W : World} {base : Nat} {sp : Nat → Bool} {held : Bool} {a : Option Addr} {len cap : Nat} {x : DataW H × List MemPlace} {fuel : Nat}
    (hf : DataW.trod enc Try.prog W base sp held fuel 22 (Value.cells (.slice a len cap)).toList = some x) (hw : ∀ n ∈ x.1.weights Try.prog 22, n ≤ reachBytes) : ∃ cs : List Cl, cs.length ≤ maxLen ∧ SeesC W (.slice a len cap) cs := by
  rcases Deep.open_slice Try.underlying22 hf with ⟨hcs, _⟩ | ⟨y, l, c, m, n, D, Pl, hcs, _, hl, hm, hmm, hx, hel⟩
  · simp [Value.cells] at hcs
    obtain ⟨rfl, rfl, rfl⟩ := hcs
    exact ⟨[], by decide, .inl ⟨rfl, _, _, rfl⟩⟩
  · simp [Value.cells] at hcs
    obtain ⟨rfl, rfl, rfl⟩ := hcs
    have hlm : len ≤ m := by rw [hmm]; split <;> omega
    have each : ∀ i, i < len → ∃ c : Cl, W.cell? (y.add (i * 5)) = some (.int .i64 c.kind) ∧ W.cell? (y.add (i * 5 + 1)) = some (.int .i64 c.rev) ∧ W.cell? (y.add (i * 5 + 2)) = some (.string c.key) ∧ W.cell? (y.add (i * 5 + 3)) = some (.string c.hi) ∧
        W.cell? (y.add (i * 5 + 4)) = some (.bool c.del) ∧ (-9223372036854775808 ≤ c.rev ∧ c.rev ≤ 9223372036854775807) ∧ c.key.size ≤ 140737488355328 ∧ c.hi.size ≤ 140737488355328 := by
      intro i hi
      obtain ⟨cs', h1, h2⟩ := hel i (by omega)
      have hwi : ∀ q ∈ (D i).weights Try.prog 31, q ≤ reachBytes := fun q hq => hw q (by
        rw [hx]
        simp only [DataW.weights, Try.underlying22, List.mem_cons, List.mem_append]
        exact .inr (.inl (weightsAll_mem (List.mem_map.2 ⟨i, List.mem_range.2 hi, rfl⟩) hq)))
      rw [cells31] at h1
      obtain ⟨y0, y1, y2, y3, y4, n', hD, hlen, t0, t1, t2, t3, t4⟩ := struct5 Try.underlying31 h2
      have hD : D i = .agg [y0.1, y1.1, y2.1, y3.1, y4.1] := hD
      have hwe : ∀ q ∈ DataW.weightsEach Try.prog [3, 3, 9, 9, 4] [y0.1, y1.1, y2.1, y3.1, y4.1], q ≤ reachBytes := fun q hq => hwi q (by
        rw [hD]
        simp only [DataW.weights, Try.underlying31]
        exact hq)
      have hwj : ∀ (j : Nat) (t : TypeId) (d : DataW H), [3, 3, 9, 9, 4][j]? = some t → [y0.1, y1.1, y2.1, y3.1, y4.1][j]? = some d → ∀ q ∈ d.weights Try.prog t, q ≤ reachBytes := fun j t d ht hd q hq => hwe q (DataW.weights_mem_each ht hd q hq)
      rw [cells31] at hlen
      obtain ⟨_, _, hc⟩ := World.cells?_some h1
      simp only [cells3, cells9, cells4] at t0 t1 t2 t3 t4
      match cs', hlen, t0, t1, t2, t3, t4, hc with
      | [q0, q1, q2, q3, q4], _, t0, t1, t2, t3, t4, hc =>
        obtain ⟨k, e0, _, _⟩ := DataW.trod_int Try.underlying3 t0
        obtain ⟨nn, e1, _, w1⟩ := DataW.trod_int Try.underlying3 t1
        obtain ⟨sa, e2, x2, _⟩ := DataW.trod_string Try.underlying9 t2
        obtain ⟨sb, e3, x3, _⟩ := DataW.trod_string Try.underlying9 t3
        obtain ⟨bb, e4, _⟩ := DataW.trod_bool Try.underlying4 t4
        simp at e0 e1 e2 e3 e4
        subst e0 e1 e2 e3 e4
        have b2 : sa.size ≤ 140737488355328 := by
          have := hwj 2 9 y2.1 rfl rfl
          rw [x2] at this
          exact str_len this
        have b3 : sb.size ≤ 140737488355328 := by
          have := hwj 3 9 y3.1 rfl rfl
          rw [x3] at this
          exact str_len this
        have g0 := hc 0 (by omega)
        have g1 := hc 1 (by omega)
        have g2 := hc 2 (by omega)
        have g3 := hc 3 (by omega)
        have g4 := hc 4 (by omega)
        rw [Deep.add_add] at g0 g1 g2 g3 g4
        exact ⟨⟨k, nn, sa, sb, bb⟩, by simpa using g0, by simpa using g1, by simpa using g2, by simpa using g3, by simpa using g4, bounds_i64 w1, b2, b3⟩
    haveI : Inhabited Cl := ⟨noCl⟩
    obtain ⟨f, hfn⟩ := Deep.choose_lt (α := Cl) (p := fun i c => W.cell? (y.add (i * 5)) = some (.int .i64 c.kind) ∧ W.cell? (y.add (i * 5 + 1)) = some (.int .i64 c.rev) ∧ W.cell? (y.add (i * 5 + 2)) = some (.string c.key) ∧ W.cell? (y.add (i * 5 + 3)) = some (.string c.hi) ∧
        W.cell? (y.add (i * 5 + 4)) = some (.bool c.del) ∧ (-9223372036854775808 ≤ c.rev ∧ c.rev ≤ 9223372036854775807) ∧ c.key.size ≤ 140737488355328 ∧ c.hi.size ≤ 140737488355328) each
    have hpl : ((List.range len).map f).length = len := by simp
    refine ⟨(List.range len).map f, by omega, ?_⟩
    by_cases h0 : len = 0
    · subst h0
      exact .inl ⟨by simp, _, _, rfl⟩
    · obtain ⟨g0, _⟩ := hfn 0 (by omega)
      obtain ⟨b, off, spot⟩ := y
      have hspot : spot = none := by simpa [Addr.add] using World.cell?_spot g0
      subst hspot
      refine .inr ⟨b, off, cap, by rw [hpl], by omega, ?_, fun i hi => ?_⟩
      · have := World.block_lt_of_cell? _ _ g0
        simpa [Addr.add] using this
      · have hi' : i < len := by omega
        have e : ((List.range len).map f).getD i noCl = f i := by simp [List.getD_eq_getElem?_getD, hi']
        rw [e]
        obtain ⟨c0, c1, c2, c3, c4, r4, r5, r6⟩ := hfn i hi'
        rw [Addr.add_lit] at c0 c1 c2 c3 c4
        exact ⟨c0, c1, c2, c3, c4, r4, r5, r6⟩
end Go.Proofs.Ytilginghgigiiaa
