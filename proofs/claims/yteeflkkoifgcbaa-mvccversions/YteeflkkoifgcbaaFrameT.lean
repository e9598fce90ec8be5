/- What the statements' frames share: slices that came in, and how long they can be. -/
import Derived.Test.YteeflkkoifgcbaaMV3
import Derived.Test.YteeflkkoifgcbaaRows
import Derived.ProofKit
import Derived.OpenShut
import Derived.SizedLaws
import Derived.Stop.Joined
import Derived.Deep.Grids
import Derived.Deep.Strs
namespace Go.Proofs.Yteeflkkoifgcbaa
open Go.ChangeShapes Go.WideShapes Go.ChangeAt Go.RowKit

theorem own : ownKnob Try.prog.godebug = none := by kernel_rfl
theorem laidOut : laidOutB Try.prog = true := by kernel_rfl
theorem bytes4 : Try.prog.bytesOf 4 = 1 := by kernel_rfl
theorem weigh {H : Type} {ts : List TypeId} {ds : List (DataW H)} (h : (DataW.weightsEach Try.prog ts ds).all (· ≤ reachBytes) = true) {j : Nat} {t : TypeId} {d : DataW H} (ht : ts[j]? = some t) (hd : ds[j]? = some d) : ∀ n ∈ d.weights Try.prog t, n ≤ reachBytes := fun n hn => by
  have := List.all_eq_true.1 h _ (DataW.weights_mem_each ht hd n hn)
  simpa using this
/-- A slice of bools that came in. -/
theorem bools_in {H : Type} {enc : TypeId × Value → H} {W : World} {base : Nat} {held : Bool} {a : Option Addr} {len cap : Nat} {x : DataW H × List MemPlace} {fuel : Nat}
    (hf : DataW.trod enc Try.prog W base (fun _ => true) held fuel 54 (Value.cells (.slice a len cap)).toList = some x) (hw : ∀ n ∈ x.1.weights Try.prog 54, n ≤ reachBytes) : ∃ zs : List Bool, zs.length = len ∧ len ≤ 140737488355328 ∧ SeesT W (.slice a len cap) zs := by
  rcases Go.Deep.open_bools Try.underlying54 Try.underlying4 (by kernel_rfl) hf with ⟨hcs, _⟩ | ⟨y, l, c, Bf, hcs, _, hl, hm, hx, hcell⟩
  · simp [Value.cells] at hcs
    obtain ⟨rfl, rfl, rfl⟩ := hcs
    exact ⟨[], rfl, by decide, .inl ⟨rfl, _, _, rfl⟩⟩
  · simp [Value.cells] at hcs
    obtain ⟨rfl, rfl, rfl⟩ := hcs
    have hbd : len ≤ 140737488355328 := by
      have := hw ((len + (cap - len)) * Try.prog.bytesOf 4) (by rw [hx]; simp [Go.Deep.boolRow, DataW.weights, Try.underlying54])
      rw [bytes4] at this
      unfold reachBytes at this
      omega
    refine ⟨(List.range len).map Bf, by simp, hbd, ?_⟩
    by_cases h0 : len = 0
    · subst h0
      exact .inl ⟨by simp, _, _, rfl⟩
    · obtain ⟨b, off, spot⟩ := y
      have hspot : spot = none := by simpa [Addr.add] using World.cell?_spot (hcell 0 (by omega))
      subst hspot
      refine .inr ⟨b, off, cap, by simp, by simp; omega, World.block_lt_of_cell? W ⟨b, off + 0, none⟩ (by rw [← Go.WideShapes.add_plain]; exact hcell 0 (by omega)), fun i hi => ?_⟩
      have hi' : i < len := by simpa using hi
      rw [← Go.WideShapes.add_plain, hcell i (by omega)]
      simp [List.getD_eq_getElem?_getD, hi']
end Go.Proofs.Yteeflkkoifgcbaa
