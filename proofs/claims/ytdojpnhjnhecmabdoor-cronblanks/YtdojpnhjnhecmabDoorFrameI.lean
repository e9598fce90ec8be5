/- A slice of numbers that came in. -/
import Derived.Test.YtdojpnhjnhecmabDoorFrame
import Derived.Test.YtdojpnhjnhecmabDoorV3
import Derived.ProofKit
import Derived.LaidMore
import Derived.LaidSub
import Derived.OpenShut
import Derived.Stop.Joined
import Derived.Lib.LaidTab
import Derived.Deep.Grids
namespace Go.Proofs.YtdojpnhjnhecmabDoor
open Go Go.ChangeShapes Go.WideShapes Go.ChangeAt Go.RowKit
/-- A slice of numbers that came in. -/
theorem ints_in {H : Type} {enc : TypeId × Value → H} {W : World} {base : Nat} {sp : Nat → Bool} {held : Bool} {a : Option Addr} {len cap : Nat} {x : DataW H × List MemPlace} {fuel : Nat}
    (hf : DataW.trod enc Tryd.prog W base sp held fuel 37 (Value.cells (.slice a len cap)).toList = some x) : ∃ zs : List Int, zs.length = len ∧ len ≤ maxLen ∧ SeesI W (.slice a len cap) zs := by
  rcases open_ints Tryd.underlying37 Tryd.underlying3 (by kernel_rfl) hf with ⟨hcs, _⟩ | ⟨y, l, c, zs, hcs, _, hl, hm, hz, _, hcell, hwz⟩
  · simp [Value.cells] at hcs
    obtain ⟨rfl, rfl, rfl⟩ := hcs
    exact ⟨[], rfl, by decide, .inl ⟨rfl, _, _, rfl⟩⟩
  · simp [Value.cells] at hcs
    obtain ⟨rfl, rfl, rfl⟩ := hcs
    have hz2 : len ≤ zs.length := by rw [hz]; split <;> omega
    have hlz : (zs.take len).length = len := by simp; omega
    refine ⟨zs.take len, hlz, by omega, ?_⟩
    by_cases h0 : len = 0
    · subst h0
      exact .inl ⟨by simp, _, _, rfl⟩
    · obtain ⟨b, off, rfl, hc⟩ := ints_at hcell (by omega)
      refine .inr ⟨b, off, cap, by rw [hlz], by omega, ?_, fun i hi => ?_⟩
      · have := hc 0 (by omega)
        exact World.block_lt_of_cell? _ _ this
      · rw [hc i (by omega)]
        have hi' : i < len := by omega
        simp [List.getD_eq_getElem?_getD, hi']
end Go.Proofs.YtdojpnhjnhecmabDoor
