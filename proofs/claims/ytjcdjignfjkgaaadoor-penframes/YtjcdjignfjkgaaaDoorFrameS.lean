/- Slices of slices of bytes that came in. -/
import Derived.Test.YtjcdjignfjkgaaaDoorFrameLaws
import Derived.Test.YtjcdjignfjkgaaaDoorFrame
import Derived.Deep.Strs
namespace Go.Proofs.YtjcdjignfjkgaaaDoor
open Go.ChangeShapes Go.WideShapes Go.ChangeAt Go.RowKit
theorem cells27 : Tryd.prog.cellsOf 27 = 1 := by kernel_rfl
theorem bytess_in {H : Type} {enc : TypeId × Value → H} {W : World} {base : Nat} {sp : Nat → Bool} {held : Bool} {a : Option Addr} {len cap : Nat} {x : DataW H × List MemPlace} {fuel : Nat}
    (hf : DataW.trod enc Tryd.prog W base sp held fuel 46 (Value.cells (.slice a len cap)).toList = some x) : ∃ ls : List (List Int), ls.length ≤ maxLen ∧ SeesS W (.slice a len cap) ls := by
  rcases Deep.open_slice1 Tryd.underlying46 cells27 hf with ⟨hcs, _⟩ | ⟨y, l, c, m, n, V, D, Pl, hcs, _, hl, hm, hmm, _, hel⟩
  · simp [Value.cells] at hcs
    obtain ⟨rfl, rfl, rfl⟩ := hcs
    exact ⟨[], by decide, .inl ⟨rfl, _, _, rfl⟩⟩
  · simp [Value.cells] at hcs
    obtain ⟨rfl, rfl, rfl⟩ := hcs
    have hlm : len ≤ m := by rw [hmm]; split <;> omega
    have each : ∀ i, i < len → ∃ z : List Int, ∃ vi, W.cell? (y.add i) = some vi ∧ Sees W vi z ∧ isB z ∧ z.length ≤ maxLen := by
      intro i hi
      obtain ⟨h1, h2⟩ := hel i (by omega)
      have hform : ∃ ai li ci, V i = .slice ai li ci := by
        rcases open_ints Tryd.underlying27 Tryd.underlying5 (by kernel_rfl) h2 with ⟨hcs, _⟩ | ⟨y', l', c', zs, hcs, _⟩
        · simp at hcs; exact ⟨_, _, _, hcs⟩
        · simp at hcs; exact ⟨_, _, _, hcs⟩
      obtain ⟨ai, li, ci, hvi⟩ := hform
      rw [hvi] at h1 h2
      obtain ⟨zs, hz, hmx, hb, hs⟩ := bytes_in (a := ai) (len := li) (cap := ci) (by simpa [Value.cells] using h2)
      exact ⟨zs, _, h1, hs, hb, by omega⟩
    obtain ⟨f, hfn⟩ := Deep.choose_lt (α := List Int) (p := fun i z => ∃ vi, W.cell? (y.add i) = some vi ∧ Sees W vi z ∧ isB z ∧ z.length ≤ maxLen) each
    have hpl : ((List.range len).map f).length = len := by simp
    refine ⟨(List.range len).map f, by omega, ?_⟩
    by_cases h0 : len = 0
    · subst h0
      exact .inl ⟨by simp, _, _, rfl⟩
    · obtain ⟨v0, g0, _⟩ := hfn 0 (by omega)
      obtain ⟨b, off, spot⟩ := y
      have hspot : spot = none := by simpa [Addr.add] using World.cell?_spot g0
      subst hspot
      refine .inr ⟨b, off, cap, by rw [hpl], by omega, ?_, fun i hi => ?_⟩
      · have := World.block_lt_of_cell? _ _ g0
        simpa [Addr.add] using this
      · have hi' : i < len := by omega
        have e : ((List.range len).map f).getD i [] = f i := by simp [List.getD_eq_getElem?_getD, hi']
        rw [e]
        obtain ⟨vi, c1, c2⟩ := hfn i hi'
        rw [Addr.add_lit] at c1
        exact ⟨vi, c1, c2⟩
end Go.Proofs.YtjcdjignfjkgaaaDoor
