/- What the statements' frames share: the table as the row lists it, the start that fits, slices that came in. -/
import Derived.Test.YtecnlfalpfbobaaGreatDoorWB1
import Derived.Test.YtecnlfalpfbobaaGreatDoorRows
import Derived.ProofKit
import Derived.LaidMore
import Derived.LaidSub
import Derived.OpenShut
import Derived.Stop.Joined
import Derived.Lib.LaidTab
import Derived.Deep.Grids
namespace Go.Proofs.YtecnlfalpfbobaaGreatDoor
open Go.ChangeShapes Go.WideShapes Go.ChangeAt Go.RowKit

theorem own : ownKnob Tryz.prog.godebug = none := by kernel_rfl
theorem laidOut : laidOutB Tryz.prog = true := by kernel_rfl
abbrev laid4 : List (String × DataW Unit) := [("math/bits.deBruijn32tab", Rows.laid_math_bits_deBruijn32tab), ("math/bits.deBruijn64tab", Rows.laid_math_bits_deBruijn64tab), ("internal/strconv.uint64pow10", Rows.laid_internal_strconv_uint64pow10), ("horologe/pen.halfByteSums", Rows.laid_horologe_pen_halfByteSums)]
abbrev laid1 : List (String × DataW Unit) := [("horologe/pen.halfByteSums", Rows.laid_horologe_pen_halfByteSums)]
theorem gTab : Tryz.prog.globalNamed "horologe/pen.halfByteSums" = some 0 := by kernel_rfl

theorem tTab : (Tryz.prog.globals[0]?).map (·.type) = some 222 := by kernel_rfl
theorem cellsE : Tryz.prog.cellsOf 178 = 1 := by kernel_rfl
theorem cellsT : Tryz.prog.cellsOf 222 = 16 := by kernel_rfl
theorem tab_of_laid {W : World} (h : laidMetH Tryz.prog laid4 W) : HasTab W := by
  have h1 : laidMetH Tryz.prog laid1 W := h.filter (fun x => x.1 == "horologe/pen.halfByteSums")
  rw [MakeChecks.laidMetH_plain _ _ _ (by kernel_rfl)] at h1
  have ht := Lib.tabIs_of_head (k := .u32) (zs := tab.map fun (n : Nat) => (n : Int)) (rest := []) gTab tTab Tryz.underlying222 Tryz.underlying178 cellsE cellsT h1
  intro j hj
  rw [ht.cell gTab j hj]
  match j, hj with
  | 0, _ | 1, _ | 2, _ | 3, _ | 4, _ | 5, _ | 6, _ | 7, _ | 8, _ | 9, _ | 10, _ | 11, _ | 12, _ | 13, _ | 14, _ | 15, _ => rfl
  | j + 16, h => exact absurd h (by omega)

theorem door_met (os : Os) (args : Array Value) : laidMetH Tryz.prog laid4 ((World.doorLaid Tryz.prog 400 os).forCall (fun _ _ => 0) ⟨#[], args, []⟩).memory :=
  laidMetH_of_parts3 (fuel := 8) (laidMet_of_run' 8 (by kernel_rfl) (by kernel_rfl)) (by kernel_rfl) (by kernel_rfl)

/-- A slice of numbers that came in. -/
theorem ints_in {H : Type} {enc : TypeId × Value → H} {W : World} {base : Nat} {sp : Nat → Bool} {held : Bool} {a : Option Addr} {len cap : Nat} {x : DataW H × List MemPlace} {fuel : Nat}
    (hf : DataW.trod enc Tryz.prog W base sp held fuel 35 (Value.cells (.slice a len cap)).toList = some x) : ∃ zs : List Int, zs.length = len ∧ len ≤ maxLen ∧ SeesI W (.slice a len cap) zs := by
  rcases open_ints Tryz.underlying35 Tryz.underlying3 (by kernel_rfl) hf with ⟨hcs, _⟩ | ⟨y, l, c, zs, hcs, _, hl, hm, hz, _, hcell, hwz⟩
  · simp [Value.cells] at hcs
    obtain ⟨rfl, rfl, rfl⟩ := hcs
    exact ⟨[], rfl, by decide, .inl ⟨rfl, _, _, rfl⟩⟩
  · simp [Value.cells] at hcs
    obtain ⟨rfl, rfl, rfl⟩ := hcs
    have hz2 : len ≤ zs.length := by rw [hz]; split <;> omega
    have hlz : (zs.take len).length = len := by simp; omega
    refine ⟨zs.take len, hlz, by omega, ?_⟩
    by_cases h0 : len = 0
    · subst h0
      exact .inl ⟨by simp, _, _, rfl⟩
    · obtain ⟨b, off, rfl, hc⟩ := ints_at hcell (by omega)
      refine .inr ⟨b, off, cap, by rw [hlz], by omega, ?_, fun i hi => ?_⟩
      · have := hc 0 (by omega)
        exact World.block_lt_of_cell? _ _ this
      · rw [hc i (by omega)]
        have hi' : i < len := by omega
        simp [List.getD_eq_getElem?_getD, hi']
/-- A slice of bools that came in. -/
theorem bools_in {H : Type} {enc : TypeId × Value → H} {W : World} {base : Nat} {held : Bool} {a : Option Addr} {len cap : Nat} {x : DataW H × List MemPlace} {fuel : Nat}
    (hf : DataW.trod enc Tryz.prog W base (fun _ => true) held fuel 78 (Value.cells (.slice a len cap)).toList = some x) : ∃ zs : List Bool, zs.length = len ∧ len ≤ maxLen ∧ SeesT W (.slice a len cap) zs := by
  rcases Go.Deep.open_bools Tryz.underlying78 Tryz.underlying4 (by kernel_rfl) hf with ⟨hcs, _⟩ | ⟨y, l, c, Bf, hcs, _, hl, hm, _, hcell⟩
  · simp [Value.cells] at hcs
    obtain ⟨rfl, rfl, rfl⟩ := hcs
    exact ⟨[], rfl, by decide, .inl ⟨rfl, _, _, rfl⟩⟩
  · simp [Value.cells] at hcs
    obtain ⟨rfl, rfl, rfl⟩ := hcs
    refine ⟨(List.range len).map Bf, by simp, by omega, ?_⟩
    by_cases h0 : len = 0
    · subst h0
      exact .inl ⟨by simp, _, _, rfl⟩
    · obtain ⟨b, off, spot⟩ := y
      have hspot : spot = none := by simpa [Addr.add] using World.cell?_spot (hcell 0 (by omega))
      subst hspot
      refine .inr ⟨b, off, cap, by simp, by simp; omega, World.block_lt_of_cell? W ⟨b, off + 0, none⟩ (by rw [← Go.WideShapes.add_plain]; exact hcell 0 (by omega)), fun i hi => ?_⟩
      have hi' : i < len := by simpa using hi
      rw [← Go.WideShapes.add_plain, hcell i (by omega)]
      simp [List.getD_eq_getElem?_getD, hi']
end Go.Proofs.YtecnlfalpfbobaaGreatDoor
