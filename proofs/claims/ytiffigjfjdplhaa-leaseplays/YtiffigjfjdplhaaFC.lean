/- Calls that came in. -/
import Derived.Test.YtiffigjfjdplhaaLP2
import Derived.Test.YtiffigjfjdplhaaFR
namespace Go.Proofs.Ytiffigjfjdplhaa
open Go.ChangeShapes Go.WideShapes Go.ChangeAt Go.RowKit
theorem cells31 : Try.prog.cellsOf 31 = 4 := by kernel_rfl
theorem cells3 : Try.prog.cellsOf 3 = 1 := by kernel_rfl
theorem struct4 {H : Type} {enc : TypeId × Value → H} {P : Program} {w : World} {base : Nat} {spare : Nat → Bool} {held : Bool} {t : TypeId} {f0 f1 f2 f3 : Field} {fuel : Nat} {cs : List Value} {x : DataW H × List MemPlace} (ht : P.underlying t = some (.struct #[f0, f1, f2, f3])) (h : DataW.trod enc P w base spare held fuel t cs = some x) :
    ∃ y0 y1 y2 y3 n, cs.length = P.cellsOf t ∧ DataW.trod enc P w base spare held n f0.type ((cs.drop f0.offset).take (P.cellsOf f0.type)) = some y0 ∧
      DataW.trod enc P w base spare held n f1.type ((cs.drop f1.offset).take (P.cellsOf f1.type)) = some y1 ∧ DataW.trod enc P w base spare held n f2.type ((cs.drop f2.offset).take (P.cellsOf f2.type)) = some y2 ∧
      DataW.trod enc P w base spare held n f3.type ((cs.drop f3.offset).take (P.cellsOf f3.type)) = some y3 := by
  obtain ⟨xs, n, _, rfl, hl, hlen, hf⟩ := DataW.trod_struct ht h
  match xs, hlen with
  | [y0, y1, y2, y3], _ => exact ⟨y0, y1, y2, y3, n, hl, by simpa using hf 0 f0 rfl, by simpa using hf 1 f1 rfl, by simpa using hf 2 f2 rfl, by simpa using hf 3 f3 rfl⟩
theorem calls_in {H : Type} {enc : TypeId × Value → H} {W : World} {base : Nat} {sp : Nat → Bool} {held : Bool} {a : Option Addr} {len cap : Nat} {x : DataW H × List MemPlace} {fuel : Nat}
    (hf : DataW.trod enc Try.prog W base sp held fuel 22 (Value.cells (.slice a len cap)).toList = some x) (_hw : ∀ n ∈ x.1.weights Try.prog 22, n ≤ reachBytes) : ∃ cs : List Cl, cs.length ≤ maxLen ∧ SeesC W (.slice a len cap) cs := by
  rcases Deep.open_slice Try.underlying22 hf with ⟨hcs, _⟩ | ⟨y, l, c, m, n, D, Pl, hcs, _, hl, hm, hmm, hx, hel⟩
  · simp [Value.cells] at hcs
    obtain ⟨rfl, rfl, rfl⟩ := hcs
    exact ⟨[], by decide, .inl ⟨rfl, _, _, rfl⟩⟩
  · simp [Value.cells] at hcs
    obtain ⟨rfl, rfl, rfl⟩ := hcs
    have hlm : len ≤ m := by rw [hmm]; split <;> omega
    have each : ∀ i, i < len → ∃ c : Cl, W.cell? (y.add (i * 4)) = some (.int .i64 c.kind) ∧ W.cell? (y.add (i * 4 + 1)) = some (.int .i64 c.id) ∧ W.cell? (y.add (i * 4 + 2)) = some (.int .i64 c.ttl) ∧ W.cell? (y.add (i * 4 + 3)) = some (.int .i64 c.now) ∧ isI c.id := by
      intro i hi
      obtain ⟨cs', h1, h2⟩ := hel i (by omega)
      rw [cells31] at h1
      obtain ⟨y0, y1, y2, y3, n', hlen, t0, t1, t2, t3⟩ := struct4 Try.underlying31 h2
      rw [cells31] at hlen
      obtain ⟨_, _, hc⟩ := World.cells?_some h1
      simp only [cells3] at t0 t1 t2 t3
      match cs', hlen, t0, t1, t2, t3, hc with
      | [q0, q1, q2, q3], _, t0, t1, t2, t3, hc =>
        obtain ⟨k0, e0, _, _⟩ := DataW.trod_int Try.underlying3 t0
        obtain ⟨k1, e1, _, w1⟩ := DataW.trod_int Try.underlying3 t1
        obtain ⟨k2, e2, _, _⟩ := DataW.trod_int Try.underlying3 t2
        obtain ⟨k3, e3, _, _⟩ := DataW.trod_int Try.underlying3 t3
        simp at e0 e1 e2 e3
        subst e0 e1 e2 e3
        have g0 := hc 0 (by omega)
        have g1 := hc 1 (by omega)
        have g2 := hc 2 (by omega)
        have g3 := hc 3 (by omega)
        rw [Deep.add_add] at g0 g1 g2 g3
        exact ⟨⟨k0, k1, k2, k3⟩, by simpa using g0, by simpa using g1, by simpa using g2, by simpa using g3, bounds_i64 w1⟩
    haveI : Inhabited Cl := ⟨noCl⟩
    obtain ⟨f, hfn⟩ := Deep.choose_lt (α := Cl) (p := fun i c => W.cell? (y.add (i * 4)) = some (.int .i64 c.kind) ∧ W.cell? (y.add (i * 4 + 1)) = some (.int .i64 c.id) ∧ W.cell? (y.add (i * 4 + 2)) = some (.int .i64 c.ttl) ∧ W.cell? (y.add (i * 4 + 3)) = some (.int .i64 c.now) ∧ isI c.id) each
    have hpl : ((List.range len).map f).length = len := by simp
    refine ⟨(List.range len).map f, by omega, ?_⟩
    by_cases h0 : len = 0
    · subst h0
      exact .inl ⟨by simp, _, _, rfl⟩
    · obtain ⟨g0, _⟩ := hfn 0 (by omega)
      obtain ⟨b, off, spot⟩ := y
      have hspot : spot = none := by simpa [Addr.add] using World.cell?_spot g0
      subst hspot
      refine .inr ⟨b, off, cap, by rw [hpl], by omega, ?_, fun i hi => ?_⟩
      · have := World.block_lt_of_cell? _ _ g0
        simpa [Addr.add] using this
      · have hi' : i < len := by omega
        have e : ((List.range len).map f).getD i noCl = f i := by simp [List.getD_eq_getElem?_getD, hi']
        rw [e]
        obtain ⟨c0, c1, c2, c3, r4⟩ := hfn i hi'
        rw [Addr.add_lit] at c0 c1 c2 c3
        exact ⟨c0, c1, c2, c3, r4⟩
end Go.Proofs.Ytiffigjfjdplhaa
