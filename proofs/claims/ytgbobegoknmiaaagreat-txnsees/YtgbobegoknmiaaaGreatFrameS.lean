/- What the statement's frame needs: texts that came in, and how long they can be. -/
import Derived.Test.YtgbobegoknmiaaaGreatGRH
import Derived.Test.YtgbobegoknmiaaaGreatRows
import Derived.ProofKit
import Derived.OpenShut
import Derived.SizedLaws
import Derived.Stop.Joined
import Derived.Deep.Grids
import Derived.Deep.Strs
namespace Go.Proofs.YtgbobegoknmiaaaGreat
open Go.ChangeShapes Go.WideShapes Go.ChangeAt Go.RowKit

theorem own : ownKnob Tryz.prog.godebug = none := by kernel_rfl
theorem laidOut : laidOutB Tryz.prog = true := by kernel_rfl
theorem bytes9 : Tryz.prog.bytesOf 9 = 16 := by kernel_rfl
theorem weigh {H : Type} {ts : List TypeId} {ds : List (DataW H)} (h : (DataW.weightsEach Tryz.prog ts ds).all (· ≤ reachBytes) = true) {j : Nat} {t : TypeId} {d : DataW H} (ht : ts[j]? = some t) (hd : ds[j]? = some d) : ∀ n ∈ d.weights Tryz.prog t, n ≤ reachBytes := fun n hn => by
  have := List.all_eq_true.1 h _ (DataW.weights_mem_each ht hd n hn)
  simpa using this
theorem str_len {H : Type} {s : ByteArray} (hw : ∀ n ∈ (DataW.lit (H := H) (.string s.data.toList)).weights Tryz.prog 9, n ≤ reachBytes) : s.size ≤ 140737488355328 := by
  have := hw s.data.toList.length (by simp [DataW.weights])
  rw [Array.length_toList] at this
  have h3 : s.size ≤ reachBytes := this
  unfold reachBytes at h3; omega
/-- A slice of texts that came in. -/
theorem strs_in {H : Type} {enc : TypeId × Value → H} {W : World} {base : Nat} {sp : Nat → Bool} {held : Bool} {a : Option Addr} {len cap : Nat} {x : DataW H × List MemPlace} {fuel : Nat}
    (hf : DataW.trod enc Tryz.prog W base sp held fuel 53 (Value.cells (.slice a len cap)).toList = some x) (hw : ∀ n ∈ x.1.weights Tryz.prog 53, n ≤ reachBytes) : ∃ zs : List ByteArray, zs.length = len ∧ len ≤ 140737488355328 ∧ SeesS W (.slice a len cap) zs := by
  rcases Go.Deep.open_strs Tryz.underlying53 Tryz.underlying9 (by kernel_rfl) hf with ⟨hcs, _⟩ | ⟨y, l, c, m, Sx, hcs, _, hl, hm, hmm, hx, hcell⟩
  · simp [Value.cells] at hcs
    obtain ⟨rfl, rfl, rfl⟩ := hcs
    exact ⟨[], rfl, by decide, .inl ⟨rfl, _, _, rfl⟩⟩
  · simp [Value.cells] at hcs
    obtain ⟨rfl, rfl, rfl⟩ := hcs
    have hlm : len ≤ m := by rw [hmm]; split <;> omega
    have hbd : len ≤ 140737488355328 := by
      have := hw ((len + (m - len)) * Tryz.prog.bytesOf 9) (by rw [hx]; simp [DataW.weights, Tryz.underlying53])
      rw [bytes9] at this
      unfold reachBytes at this
      omega
    refine ⟨(List.range len).map Sx, by simp, hbd, ?_⟩
    by_cases h0 : len = 0
    · subst h0
      exact .inl ⟨by simp, _, _, rfl⟩
    · obtain ⟨b, off, spot⟩ := y
      have hspot : spot = none := by simpa [Addr.add] using World.cell?_spot (hcell 0 (by omega)).1
      subst hspot
      refine .inr ⟨b, off, cap, by simp, by simp; omega, World.block_lt_of_cell? W ⟨b, off + 0, none⟩ (by rw [← Go.WideShapes.add_plain]; exact (hcell 0 (by omega)).1), fun i hi => ?_⟩
      have hi' : i < len := by simpa using hi
      have e : ((List.range len).map Sx).getD i ByteArray.empty = Sx i := by simp [List.getD_eq_getElem?_getD, hi']
      rw [e, ← Go.WideShapes.add_plain]
      exact ⟨(hcell i (by omega)).1, by have := (hcell i (by omega)).2; unfold maxLen at this; omega⟩
end Go.Proofs.YtgbobegoknmiaaaGreat
