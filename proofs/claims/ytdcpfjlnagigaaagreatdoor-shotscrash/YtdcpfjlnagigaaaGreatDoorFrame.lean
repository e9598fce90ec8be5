/- What the statements' frames share: the table as the row lists it, the start that fits, slices that came in. -/
import Derived.Test.YtdcpfjlnagigaaaGreatDoorPSum
import Derived.Test.YtdcpfjlnagigaaaGreatDoorLeaf
import Derived.Test.YtdcpfjlnagigaaaGreatDoorRows
import Derived.ProofKit
import Derived.LaidMore
import Derived.LaidSub
import Derived.OpenShut
import Derived.Stop.Joined
import Derived.Lib.LaidTab
import Derived.Deep.Grids
namespace Go.Proofs.YtdcpfjlnagigaaaGreatDoor
open Go.ChangeShapes Go.WideShapes Go.ChangeAt Go.RowKit

theorem own : ownKnob Tryz.prog.godebug = none := by kernel_rfl
theorem laidOut : laidOutB Tryz.prog = true := by kernel_rfl
abbrev laid4 : List (String × DataW Unit) := [("math/bits.deBruijn32tab", Rows.laid_math_bits_deBruijn32tab), ("math/bits.deBruijn64tab", Rows.laid_math_bits_deBruijn64tab), ("internal/strconv.uint64pow10", Rows.laid_internal_strconv_uint64pow10), ("horologe/pen.halfByteSums", Rows.laid_horologe_pen_halfByteSums)]
abbrev laidTab : List (String × DataW Unit) := [("horologe/pen.halfByteSums", Rows.laid_horologe_pen_halfByteSums)]
theorem gTab : Tryz.prog.globalNamed "horologe/pen.halfByteSums" = some 0 := by kernel_rfl

theorem tTab : (Tryz.prog.globals[0]?).map (·.type) = some 164 := by kernel_rfl
theorem cellsE : Tryz.prog.cellsOf 115 = 1 := by kernel_rfl
theorem cellsT : Tryz.prog.cellsOf 164 = 16 := by kernel_rfl
theorem tab_of_laid {W : World} (h : laidMetH Tryz.prog laid4 W) : HasTab W := by
  have h1 : laidMetH Tryz.prog laidTab W := h.filter (fun x => x.1 == "horologe/pen.halfByteSums")
  rw [MakeChecks.laidMetH_plain _ _ _ (by kernel_rfl)] at h1
  have ht := Lib.tabIs_of_head (k := .u32) (zs := tab.map fun (n : Nat) => (n : Int)) (rest := []) gTab tTab Tryz.underlying164 Tryz.underlying115 cellsE cellsT h1
  intro j hj
  rw [ht.cell gTab j hj]
  match j, hj with
  | 0, _ | 1, _ | 2, _ | 3, _ | 4, _ | 5, _ | 6, _ | 7, _ | 8, _ | 9, _ | 10, _ | 11, _ | 12, _ | 13, _ | 14, _ | 15, _ => rfl
  | j + 16, h => exact absurd h (by omega)

theorem door_met (os : Os) (args : Array Value) : laidMetH Tryz.prog laid4 ((World.doorLaid Tryz.prog 400 os).forCall (fun _ _ => 0) ⟨#[], args, []⟩).memory :=
  laidMetH_of_parts3 (fuel := 8) (laidMet_of_run' 8 (by kernel_rfl) (by kernel_rfl)) (by kernel_rfl) (by kernel_rfl)

/-- A slice of numbers that came in. -/
theorem ints_in {H : Type} {enc : TypeId × Value → H} {W : World} {base : Nat} {sp : Nat → Bool} {held : Bool} {a : Option Addr} {len cap : Nat} {x : DataW H × List MemPlace} {fuel : Nat}
    (hf : DataW.trod enc Tryz.prog W base sp held fuel 32 (Value.cells (.slice a len cap)).toList = some x) : ∃ zs : List Int, zs.length = len ∧ len ≤ maxLen ∧ SeesI W (.slice a len cap) zs := by
  rcases open_ints Tryz.underlying32 Tryz.underlying3 (by kernel_rfl) hf with ⟨hcs, _⟩ | ⟨y, l, c, zs, hcs, _, hl, hm, hz, _, hcell, hwz⟩
  · simp [Value.cells] at hcs
    obtain ⟨rfl, rfl, rfl⟩ := hcs
    exact ⟨[], rfl, by decide, .inl ⟨rfl, _, _, rfl⟩⟩
  · simp [Value.cells] at hcs
    obtain ⟨rfl, rfl, rfl⟩ := hcs
    have hz2 : len ≤ zs.length := by rw [hz]; split <;> omega
    have hlz : (zs.take len).length = len := by simp; omega
    refine ⟨zs.take len, hlz, by omega, ?_⟩
    by_cases h0 : len = 0
    · subst h0
      exact .inl ⟨by simp, _, _, rfl⟩
    · obtain ⟨b, off, rfl, hc⟩ := ints_at hcell (by omega)
      refine .inr ⟨b, off, cap, by rw [hlz], by omega, ?_, fun i hi => ?_⟩
      · have := hc 0 (by omega)
        exact World.block_lt_of_cell? _ _ this
      · rw [hc i (by omega)]
        have hi' : i < len := by omega
        simp [List.getD_eq_getElem?_getD, hi']
end Go.Proofs.YtdcpfjlnagigaaaGreatDoor
