/- Slices of pieces, and of slices of bytes, that came in. -/
import Derived.Test.YtjcdjignfjkgaaaDoorPieces
import Derived.Test.YtjcdjignfjkgaaaDoorFrame
import Derived.Deep.Strs
namespace Go.Proofs.YtjcdjignfjkgaaaDoor
open Go.ChangeShapes Go.WideShapes Go.ChangeAt Go.RowKit
theorem cells29 : Tryd.prog.cellsOf 29 = 3 := by kernel_rfl
theorem cells3 : Tryd.prog.cellsOf 3 = 1 := by kernel_rfl
theorem cells9 : Tryd.prog.cellsOf 9 = 1 := by kernel_rfl
theorem cells27 : Tryd.prog.cellsOf 27 = 1 := by kernel_rfl

theorem pieces_in {H : Type} {enc : TypeId × Value → H} {W : World} {base : Nat} {sp : Nat → Bool} {held : Bool} {a : Option Addr} {len cap : Nat} {x : DataW H × List MemPlace} {fuel : Nat}
    (hf : DataW.trod enc Tryd.prog W base sp held fuel 22 (Value.cells (.slice a len cap)).toList = some x) : ∃ ps : List Pc, ps.length ≤ maxLen ∧ SeesP W (.slice a len cap) ps := by
  rcases Deep.open_slice Tryd.underlying22 hf with ⟨hcs, _⟩ | ⟨y, l, c, m, n, D, Pl, hcs, _, hl, hm, hmm, _, hel⟩
  · simp [Value.cells] at hcs
    obtain ⟨rfl, rfl, rfl⟩ := hcs
    exact ⟨[], by decide, .inl ⟨rfl, _, _, rfl⟩⟩
  · simp [Value.cells] at hcs
    obtain ⟨rfl, rfl, rfl⟩ := hcs
    have hlm : len ≤ m := by rw [hmm]; split <;> omega
    have each : ∀ i, i < len → ∃ p : Pc, W.cell? (y.add (i * 3)) = some (.int .i64 p.1) ∧ W.cell? (y.add (i * 3 + 1)) = some (.int .i64 p.2.1) ∧ W.cell? (y.add (i * 3 + 2)) = some (.string p.2.2) ∧
        (-9223372036854775808 ≤ p.2.1 ∧ p.2.1 ≤ 9223372036854775807) ∧ p.2.2.size ≤ maxLen := by
      intro i hi
      obtain ⟨cs', h1, h2⟩ := hel i (by omega)
      rw [cells29] at h1
      obtain ⟨y0, y1, y2, n', _, hlen, t0, t1, t2⟩ := Deep.trod_struct3 Tryd.underlying29 h2
      rw [cells29] at hlen
      obtain ⟨_, _, hc⟩ := World.cells?_some h1
      simp only [cells3, cells9] at t0 t1 t2
      match cs', hlen, t0, t1, t2, hc with
      | [q0, q1, q2], _, t0, t1, t2, hc =>
        obtain ⟨k, e0, _, _⟩ := DataW.trod_int Tryd.underlying3 t0
        obtain ⟨nn, e1, _, w1⟩ := DataW.trod_int Tryd.underlying3 t1
        obtain ⟨s, e2, _, hs⟩ := DataW.trod_string Tryd.underlying9 t2
        simp at e0 e1 e2
        subst e0 e1 e2
        have g0 := hc 0 (by omega)
        have g1 := hc 1 (by omega)
        have g2 := hc 2 (by omega)
        rw [Deep.add_add] at g0 g1 g2
        exact ⟨(k, nn, s), by simpa using g0, by simpa using g1, by simpa using g2, bounds_i64 w1, hs⟩
    obtain ⟨f, hfn⟩ := Deep.choose_lt (α := Pc) (p := fun i p => W.cell? (y.add (i * 3)) = some (.int .i64 p.1) ∧ W.cell? (y.add (i * 3 + 1)) = some (.int .i64 p.2.1) ∧ W.cell? (y.add (i * 3 + 2)) = some (.string p.2.2) ∧
        (-9223372036854775808 ≤ p.2.1 ∧ p.2.1 ≤ 9223372036854775807) ∧ p.2.2.size ≤ maxLen) each
    have hpl : ((List.range len).map f).length = len := by simp
    refine ⟨(List.range len).map f, by omega, ?_⟩
    by_cases h0 : len = 0
    · subst h0
      exact .inl ⟨by simp, _, _, rfl⟩
    · obtain ⟨g0, _⟩ := hfn 0 (by omega)
      obtain ⟨b, off, spot⟩ := y
      have hspot : spot = none := by simpa [Addr.add] using World.cell?_spot g0
      subst hspot
      refine .inr ⟨b, off, cap, by rw [hpl], by omega, ?_, fun i hi => ?_⟩
      · have := World.block_lt_of_cell? _ _ g0
        simpa [Addr.add] using this
      · have hi' : i < len := by omega
        have e : ((List.range len).map f).getD i noPc = f i := by simp [List.getD_eq_getElem?_getD, hi']
        rw [e]
        obtain ⟨c1, c2, c3, c4⟩ := hfn i hi'
        rw [Addr.add_lit] at c1 c2 c3
        exact ⟨c1, c2, c3, c4⟩
end Go.Proofs.YtjcdjignfjkgaaaDoor
